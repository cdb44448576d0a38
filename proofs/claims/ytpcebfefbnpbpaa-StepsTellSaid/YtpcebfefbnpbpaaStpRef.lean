import Derived.Test.YtpcebfefbnpbpaaPackK
import Derived.Test.YtpcebfefbnpbpaaPackB
import Derived.Test.YtpcebfefbnpbpaaStpBase
import Derived.Deep.RegionHeld3
set_option linter.all false
set_option maxRecDepth 100000
set_option maxHeartbeats 12800000
namespace Go.Proofs.Ytpcebfefbnpbpaa
open Go.RowKit

theorem Sl.cutP {k : IntKind} {w : World} {a : Option Addr} {n cap : Nat} {zs : List Int} (h : Sl k w a n cap zs) (j : Nat) (hj : j ≤ n) : Sl k w a j cap (zs.take j) := by
  obtain ⟨h1, h2, h3, h4, h5⟩ := h
  refine ⟨by simp; omega, by omega, h3, fun z hz => h4 z (List.mem_of_mem_take hz), ?_⟩
  rcases h5 with h5 | ⟨b, off, ha, hc⟩
  · exact .inl (by omega)
  · refine .inr ⟨b, off, ha, fun i hi => ?_⟩
    rw [hc i (by omega)]
    simp [hi]
theorem Sl.fromP {k : IntKind} {w : World} {a : Option Addr} {n cap : Nat} {zs : List Int} (h : Sl k w a n cap zs) (j : Nat) (hj : j ≤ n) : Sl k w (Option.map (fun x => x.add j) a) (n - j) (cap - j) (zs.drop j) := by
  obtain ⟨h1, h2, h3, h4, h5⟩ := h
  refine ⟨by simp; omega, by omega, by omega, fun z hz => h4 z (List.mem_of_mem_drop hz), ?_⟩
  rcases h5 with h5 | ⟨b, off, ha, hc⟩
  · exact .inl (by omega)
  · refine .inr ⟨b, off + j, by rw [ha]; simp [Addr.add], fun i hi => ?_⟩
    rw [Nat.add_assoc, hc (j + i) (by omega)]
    simp [Nat.add_comm]
theorem Sl.fromIfP {k : IntKind} {w : World} {a : Option Addr} {n cap : Nat} {zs : List Int} (h : Sl k w a n cap zs) (j : Nat) (hj : j ≤ n) : Sl k w (if cap = j then a else Option.map (fun x => x.add j) a) (n - j) (cap - j) (zs.drop j) := by
  split
  · obtain ⟨h1, h2, h3, h4, h5⟩ := h
    exact ⟨by simp; omega, by omega, by omega, fun z hz => h4 z (List.mem_of_mem_drop hz), .inl (by omega)⟩
  · exact h.fromP j hj
theorem unlike_short {l : List Int} (h : l.length ≤ 1) : Stp.unlike l = false := by
  unfold Stp.unlike
  rw [decide_eq_false (show ¬ 1 < l.length by omega)]; rfl
theorem drop_at {l : List Int} (i k : Nat) : (l.drop i).getD k 0 = l.getD (i + k) 0 := by
  simp [List.getD_eq_getElem?_getD, List.getElem?_drop]

theorem MadeP.lower17 {w0 W : World} {B B' : Nat} {a : Option Addr} {n c : Nat} {xs : List Pw} (h : MadeP w0 W B a n c xs) (hB : B' ≤ B) : MadeP w0 W B' a n c xs := ⟨own_mono h.own hB, h.good, h.len, h.bel⟩
theorem rat17_none (c : Cw) (qa : Option Addr) (qn qc : Nat) (zs : List Int) (i : Nat) (w0 w : World) (hb0 : Below w0.heap.size w0 w) (hc : c.Good w0) (hq : Sl .i64 w0 qa qn qc zs) (hq20 : qn ≤ 20) (hk : c.n ≤ 200) (h8 : ∀ x ∈ ruls c.xs, x.L.length ≤ 8) (hi : i = qn) :
    Calls Try.prog 21 #[c.v, .slice qa qn qc, .int .i64 (i : Int)] w fun e w' => StepsIs w0 w w' e (Stp.here c.c (zs.drop i)) := by
  have hmx : Try.prog.follows .mixedOrders = true := by kernel_rfl
  obtain ⟨cm, cl, co, ct, ra, rn, rcap, xs⟩ := c
  have hbs := hc.2
  simp only [Cw.base, List.mem_cons, List.not_mem_nil, or_false, forall_eq_or_imp, forall_eq] at hbs
  obtain ⟨⟨hm0, hm1⟩, ⟨hl0, hl1⟩, ⟨ho0, ho1⟩, ⟨ht0, ht1⟩⟩ := hbs
  have HM : Hid ((0 ≤ cm ∧ cm < 18446744073709551616) ∧ (0 ≤ cl ∧ cl < 18446744073709551616) ∧ (0 ≤ co ∧ co < 18446744073709551616) ∧ 0 ≤ ct ∧ ct < 18446744073709551616) := Lib.hid ⟨⟨hm0, hm1⟩, ⟨hl0, hl1⟩, ⟨ho0, ho1⟩, ht0, ht1⟩
  have HRS : Hid (Rs w0 ra rn rcap xs) := hc.1
  have HLX : Hid (xs.length = rn) := HRS.out.1
  have hrc := HRS.out.2.1
  have hrm := HRS.out.2.2.1
  unfold maxLen at hrm
  have HQ := Lib.hid hq
  have HLEN : Hid (zs.length = qn) := HQ.out.1
  have hqc := hq.2.1
  have hqm := hq.2.2.1
  unfold maxLen at hqm
  have H8 := Lib.hid h8
  have HB0 := Lib.hid hb0
  dsimp only at hk
  have hi20 : i ≤ 20 := by omega
  have hiq : i ≤ qn := by omega
  have hin : ¬ (i : Int) < (qn : Int) := by omega
  have hin1 : ¬ (i : Int) + 1 < (qn : Int) := by omega
  have hin2 : decide ((i : Int) + 1 < (qn : Int)) = false := decide_eq_false hin1
  have HI := Lib.hid hi
  clear hc hq h8 hb0 hm0 hm1 hl0 hl1 ho0 ho1 ht0 ht1 hi
  show Calls _ _ #[.agg #[.int .u64 cm, .int .u64 cl, .int .u64 co, .int .u64 ct, .slice ra rn rcap], .slice qa qn qc, .int .i64 (i : Int)] w _
  go_enter Try.func21, Try.ntmps21
  go_wp2
  obtain ⟨W0, hW0⟩ : ∃ W0, W0 = w.alloc (.cells #[.int .u64 cm, .int .u64 cl, .int .u64 co, .int .u64 ct, .slice ra rn rcap] 25) := ⟨_, rfl⟩
  have HKP : Hid (∀ W, Below W0.heap.size W0 W → W.cell? ⟨w.heap.size, 0, none⟩ = some (.int .u64 cm) ∧ W.cell? ⟨w.heap.size, 1, none⟩ = some (.int .u64 cl) ∧ W.cell? ⟨w.heap.size, 2, none⟩ = some (.int .u64 co) ∧ W.cell? ⟨w.heap.size, 3, none⟩ = some (.int .u64 ct) ∧ W.cell? ⟨w.heap.size, 4, none⟩ = some (.slice ra rn rcap)) := Lib.hid fun W hb => by
    have h := (hb.block w.heap.size (by rw [hW0]; simp)).trans (show W0.heap[w.heap.size]? = some (.cells #[.int .u64 cm, .int .u64 cl, .int .u64 co, .int .u64 ct, .slice ra rn rcap] 25 (0, 0)) by rw [hW0]; exact heap_alloc_new w _)
    refine ⟨?_, ?_, ?_, ?_, ?_⟩ <;> (rw [cell_of_row W _ _ _ _ _ h]; rfl)
  have HW : Hid (Below w.heap.size w W0) := Lib.hid (by rw [hW0]; exact (Below.refl _ w).alloc (Nat.le_refl _) _)
  have HW00 : Hid (Below w0.heap.size w0 W0) := Lib.hid (HB0.out.trans (HW.out.mono HB0.out.size))
  have HBP : Hid (BaseP W0 W0 none 0 0 []) := Lib.hid (BaseP.start W0 W0 (Below.refl _ _))
  have HBA : Hid (Below W0.heap.size W0 W0.drew) := Lib.hid (below_drawn (Below.refl _ _) ⟨1, rfl⟩)
  rw [← hW0]
  clear hW0
  go_quiet (fail)
  generalize hV : W0.drewN nq = V
  have HBX : Hid (Below W0.heap.size W0 V) := Lib.hid (by rw [← hV]; exact below_drawn (Below.refl _ _) ⟨_, rfl⟩)
  have HBP : Hid (BaseP W0 V none 0 0 []) := Lib.hid (BaseP.start W0 V HBX.out)
  have HST : Hid (stps [] = Stp.one (Cw.c ⟨cm, cl, co, ct, ra, rn, rcap, xs⟩) (zs.drop i) ++ Stp.two (Cw.c ⟨cm, cl, co, ct, ra, rn, rcap, xs⟩) (zs.drop i)) := Lib.hid (by
    rw [List.drop_eq_nil_of_le (by rw [HLEN.out, HI.out]; exact Nat.le_refl _)]; rfl)
  clear hV HBA
  obtain ⟨k0, k1, k2, k3, k4⟩ := HKP.out _ HBX.out
  go_wp2_with (first
    | (at_builtin; refine append_steps (by rfl) (.tmp 63) (.tmp 67) (by rfl) W0.heap.size _ 0 [] (by rfl) (by exact (HBP.out.below ((Below.refl _ V).alloc (Nat.le_refl _) _)).made.own) (some ⟨V.heap.size, 0, none⟩) 1 1 [⟨0, none, 0, 0, [], true, cm⟩] (by rfl) (by exact Ps.newc [⟨0, none, 0, 0, [], true, cm⟩] (by intro x hx; rw [List.mem_singleton.1 hx]; exact ⟨Sl.nil, (by decide : (Lit.int .i64 0).wf = true), HM.out.1⟩) (by unfold maxLen; simp) rfl rfl rfl) 1 (by omega) (by omega) (by have := HBX.out.size; simp; omega) ?_; intro a9 c9 w9 hown9 hb9 hgrow9 hnil9)
    | fail)
  have HB9 : Hid (Below W0.heap.size W0 w9) := Lib.hid ((HBX.out.alloc HBX.out.size _).trans hb9)
  have HOWN : Hid (MadeP w0 w9 W0.heap.size a9 1 c9 ([] ++ [⟨0, none, 0, 0, [], true, cm⟩])) := Lib.hid (by
    have h := HBP.out.push ((Below.refl _ V).alloc (Nat.le_refl _) _) (fun x hx => by rw [List.mem_singleton.1 hx]; exact Pw.New.none (by decide) HM.out.1.1 HM.out.1.2) (List.pairwise_singleton _ _) (by rw [HBP.out.made.len]; rfl) hown9 hb9 hgrow9
    exact ⟨h.made.own, fun x hx => (h.new x hx).1.ok, h.made.len, HW00.out.trans (HB9.out.mono HW00.out.size)⟩)
  have HN9 := Lib.hid hnil9
  obtain ⟨outs9, ho9⟩ : ∃ l, l = [] ++ [(⟨0, none, 0, 0, [], true, cm⟩ : Pw)] := ⟨_, rfl⟩
  have HST9 : Hid (stps outs9 ++ Stp.ruled (zs.drop i) (ruls xs) = Stp.here (Cw.c ⟨cm, cl, co, ct, ra, rn, rcap, xs⟩) (zs.drop i)) := Lib.hid (by
    rw [ho9, stps_app, HST.out]; rfl)
  rw [← ho9] at HOWN
  clear hown9 hb9 hgrow9 hnil9 ho9 k0 k1 k2 k3 k4 HBX HBP HST
  go_loopw [7, 8, 9, 10] (fun ov kv rv nv wr => ∃ (k m c : Nat) (a : Option Addr) (outs : List Pw), ov = .slice a m c ∧ kv = .int .i64 (k : Int) ∧ k ≤ rn ∧ m ≤ 1 + k ∧ Hid (MadeP w0 wr W0.heap.size a m c outs) ∧ Hid (a = none → c = 0) ∧ Hid (stps outs = stps outs9 ++ Stp.ruled (zs.drop i) ((ruls xs).take k)) ∧ Hid (Below W0.heap.size W0 wr)) (fun _ kv _ _ _ => rn - (intOf kv).toNat)
  case atStart => exact ⟨0, 1, c9, a9, _, rfl, rfl, Nat.zero_le _, by omega, HOWN.out, HN9.out, by show _ = _; simp [Stp.ruled], HB9.out⟩
  case round =>
    obtain ⟨k, m, c, a, outs, rfl, rfl, hk1, hm1', HO, HN, HT, HBR⟩ := hrel
    obtain ⟨k0, k1, k2, k3, hrl⟩ := HKP.out wr HBR.out
    clear k0 k1 k2 k3
    have HBX : Hid (Below w0.heap.size w0 wr) := HO.out.bel
    by_cases hlt : k < rn
    · obtain ⟨rb, ro, la, ln, lc, L, ya, yn, yc, R, C, rfl, hrb, e1, e2, e3, hsL, hsR, hC0, hC9, hg⟩ := (HRS.out.below HBX.out (Nat.le_refl _)).one k hlt
      have hat : (ruls xs).getD k Rul.no = ⟨L, R, C⟩ := by rw [ruls_at, hg]; rfl
      have hkx : k < (ruls xs).length := by rw [ruls_length, HLX.out]; exact hlt
      have hln8 : ln ≤ 8 := by
        rw [← hsL.1]
        exact H8.out ⟨L, R, C⟩ (by rw [← hat, List.getD_eq_getElem?_getD, List.getElem?_eq_getElem hkx, Option.getD_some]; exact List.getElem_mem _)
      have HSL := Lib.hid hsL
      have HAT := Lib.hid hat
      have hli : (k : Int) < (rn : Int) := by omega
      have HQr : Hid (Sl .i64 wr qa qn qc zs) := HQ.out.below HBX.out (Nat.le_refl _)
      have hnx := Stp.ruled_take (rest := zs.drop i) hkx
      rw [HAT.out] at hnx
      have HNX := Lib.hid hnx
      have hgr := HRS.out.good k
      rw [hg] at hgr
      have HGN : Hid ((⟨(ln : Int), ya, yn, yc, R, false, C⟩ : Pw).Good w0) := Lib.hid ⟨hgr.2.1, WalkArith.wf_i64 (n := (ln : Int)) ⟨by omega, by omega⟩, hC0, hC9⟩
      clear hnx hgr hg hat hsL hsR
      go_wp2
      obtain ⟨W2, hW2⟩ : ∃ W2, W2 = wr.alloc (.cells #[.slice la ln lc, .slice ya yn yc, .int .u64 C] 41) := ⟨_, rfl⟩
      have HA2 : Hid (Below wr.heap.size wr W2) := by rw [hW2]; exact (Below.refl _ wr).alloc (Nat.le_refl _) _
      have HC2 : Hid (W2.cell? ⟨wr.heap.size, 0, none⟩ = some (.slice la ln lc) ∧ W2.cell? ⟨wr.heap.size, 1, none⟩ = some (.slice ya yn yc) ∧ W2.cell? ⟨wr.heap.size, 2, none⟩ = some (.int .u64 C)) := by
        rw [hW2]
        exact ⟨by rw [World.cell?_alloc_mark]; rfl, by rw [World.cell?_alloc_mark]; rfl, by rw [World.cell?_alloc_mark]; rfl⟩
      rw [← hW2]
      clear hW2
      have HO2 : Hid (∀ q, MadeP w0 (W2.drewN q) W0.heap.size a m c outs ∧ Below W0.heap.size W0 (W2.drewN q)) := Lib.hid fun q =>
        ⟨(HO.out.below HA2.out).drawn ⟨q, rfl⟩, below_drawn (HBR.out.trans (HA2.out.mono HBR.out.size)) ⟨q, rfl⟩⟩
      by_cases hge : i + ln ≤ qn
      · have hle : (i : Int) + (ln : Int) ≤ (qn : Int) := by omega
        have hle2 : decide ((i : Int) + (ln : Int) ≤ (qn : Int)) = true := decide_eq_true hle
        have HPC : Hid (∀ W, Sl .i64 W qa qn qc zs → Sl .i64 W (if qc = i then qa else Option.map (fun x => x.add i) qa) ln (qc - i) ((zs.drop i).take ln)) := Lib.hid fun W h => (h.fromIfP i (by omega)).cutP ln (by omega)
        have hc20 := HC2.out.1
        have hk1 : (0 : Int) ≤ (i : Int) := by omega
        have hk2 : (i : Int) ≤ (i : Int) + (ln : Int) := by omega
        have hk3 : (i : Int) + (ln : Int) ≤ (qc : Int) := by omega
        have hk4 : (i : Int) ≤ (qc : Int) := by omega
        have hk5 : i ≤ qc := by omega
        have hk6 : (i : Int) + (ln : Int) - (i : Int) = (ln : Int) := by omega


        have hk7 : (qc : Int) - (i : Int) = ((qc - i : Nat) : Int) := by omega
        by_cases hs : (zs.drop i).take ln = L
        · have HD : Hid (decide ((zs.drop i).take ln = L) = true) := Lib.hid (decide_eq_true hs)
          have HLL : Hid (L.length = ln) := HSL.out.1
          have HYS : Hid (Stp.stands (zs.drop i) ⟨L, R, C⟩ = true) := by
            unfold Stp.stands
            rw [show (⟨L, R, C⟩ : Rul).L.length = ln from HSL.out.1]
            exact HD.out
          clear hs
          go_quiet (exact Calls.quiet_of (same_is _ la ln ln (qc - i) lc ((zs.drop i).take ln) L true _ (HPC.out _ ((HQr.out.below HA2.out (Nat.le_refl _)).drewN _)) ((HSL.out.below HA2.out (Nat.le_refl _)).drewN _) HD.out))
          generalize hW3 : W2.drewN nq = W3
          have HO3 : Hid (MadeP w0 W3 W0.heap.size a m c outs ∧ Below W0.heap.size W0 W3) := by rw [← hW3]; exact HO2.out _
          have HC3 : Hid (W3.cell? ⟨wr.heap.size, 1, none⟩ = some (.slice ya yn yc) ∧ W3.cell? ⟨wr.heap.size, 2, none⟩ = some (.int .u64 C)) := by rw [← hW3]; exact HC2.out.2
          have HG3 : Hid ((⟨(ln : Int), ya, yn, yc, R, false, C⟩ : Pw).Good W3) := HGN.out.below HO3.out.1.bel (Nat.le_refl _)
          clear hW3 hc20
          have hc31 := HC3.out.1
          have hc32 := HC3.out.2
          go_wp2_with (first
            | (at_builtin; refine append_steps (by rfl) (.tmp 101) (.tmp 108) (by rfl) W0.heap.size _ m outs (by rfl) (by exact (HO3.out.1.below ((Below.refl _ W3).alloc (Nat.le_refl _) _)).own) (some ⟨W3.heap.size, 0, none⟩) 1 1 [⟨(ln : Int), ya, yn, yc, R, false, C⟩] (by rfl) (by exact Ps.newc [⟨(ln : Int), ya, yn, yc, R, false, C⟩] (by intro x hx; rw [List.mem_singleton.1 hx]; exact HG3.out) (by unfold maxLen; simp) rfl rfl rfl) (m + 1) (by omega) (by omega) (by have := HO3.out.2.size; simp; omega) ?_; intro a6 c6 w6 hown6 hb6 hgrow6 hnil6)
            | fail)
          have HO6 : Hid (MadeP w0 w6 W0.heap.size a6 (m + 1) c6 (outs ++ [⟨(ln : Int), ya, yn, yc, R, false, C⟩])) := Lib.hid ((HO3.out.1.below ((Below.refl _ W3).alloc (Nat.le_refl _) _)).push HW00.out.size (fun x hx => by rw [List.mem_singleton.1 hx]; exact .inl HGN.out) (by rw [HO3.out.1.len]; rfl) hown6 hb6 hgrow6)
          have HB6 : Hid (Below W0.heap.size W0 w6) := Lib.hid ((HO3.out.2.alloc HO3.out.2.size _).trans hb6)
          have HN6 := Lib.hid hnil6
          clear hown6 hb6 hgrow6 hnil6 hc31 hc32
          go_wp2
          go_roundw
          case rel => exact ⟨k + 1, m + 1, c6, a6, _, by go_num, by go_num, by omega, by omega, HO6.out, HN6.out, (by show _ = _; rw [HNX.out, HYS.out, stps_app, HT.out, List.append_assoc]; simp [stps, Pw.s, Stp.step, HLL.out]), HB6.out⟩
          case measure => simp [intOf]; omega
        · have HD : Hid (decide ((zs.drop i).take ln = L) = false) := Lib.hid (decide_eq_false hs)
          have HNS : Hid (Stp.stands (zs.drop i) ⟨L, R, C⟩ = false) := by
            unfold Stp.stands
            rw [show (⟨L, R, C⟩ : Rul).L.length = ln from HSL.out.1]
            exact HD.out
          clear hs
          go_quiet (exact Calls.quiet_of (same_is _ la ln ln (qc - i) lc ((zs.drop i).take ln) L false _ (HPC.out _ ((HQr.out.below HA2.out (Nat.le_refl _)).drewN _)) ((HSL.out.below HA2.out (Nat.le_refl _)).drewN _) HD.out))
          go_wp2
          go_roundw
          case rel => exact ⟨k + 1, m, c, a, outs, rfl, by go_num, by omega, by omega, (HO2.out _).1, HN.out, (by show _ = _; rw [HNX.out, HNS.out, HT.out]; simp), (HO2.out _).2⟩
          case measure => simp [intOf]; omega
      · have HNS : Hid (Stp.stands (zs.drop i) ⟨L, R, C⟩ = false) := Stp.stands_no (by rw [List.length_drop, HQ.out.1]; show qn - i < L.length; rw [HSL.out.1]; omega)
        have hle : ¬ (i : Int) + (ln : Int) ≤ (qn : Int) := by omega
        have hle2 : decide ((i : Int) + (ln : Int) ≤ (qn : Int)) = false := decide_eq_false hle
        go_quiet (fail)
        go_wp2
        go_roundw
        case rel => exact ⟨k + 1, m, c, a, outs, rfl, by go_num, by omega, by omega, (HO2.out _).1, HN.out, (by show _ = _; rw [HNX.out, HNS.out, HT.out]; simp), (HO2.out _).2⟩
        case measure => simp [intOf]; omega
    · obtain rfl : k = rn := by omega
      go_wp2
      go_ret
      exact ⟨a, m, c, outs, rfl, HO.out.lower17 HW.out.size, by rw [HT.out, ← HST9.out, List.take_of_length_le (by rw [ruls_length, HLX.out]; exact Nat.le_refl _)], HN.out, HW.out.trans (HBR.out.mono HW.out.size)⟩

theorem rat17_one (c : Cw) (qa : Option Addr) (qn qc : Nat) (zs : List Int) (i : Nat) (w0 w : World) (hb0 : Below w0.heap.size w0 w) (hc : c.Good w0) (hq : Sl .i64 w0 qa qn qc zs) (hq20 : qn ≤ 20) (hk : c.n ≤ 200) (h8 : ∀ x ∈ ruls c.xs, x.L.length ≤ 8) (hi : i + 1 = qn) :
    Calls Try.prog 21 #[c.v, .slice qa qn qc, .int .i64 (i : Int)] w fun e w' => StepsIs w0 w w' e (Stp.here c.c (zs.drop i)) := by
  have hmx : Try.prog.follows .mixedOrders = true := by kernel_rfl
  obtain ⟨cm, cl, co, ct, ra, rn, rcap, xs⟩ := c
  have hbs := hc.2
  simp only [Cw.base, List.mem_cons, List.not_mem_nil, or_false, forall_eq_or_imp, forall_eq] at hbs
  obtain ⟨⟨hm0, hm1⟩, ⟨hl0, hl1⟩, ⟨ho0, ho1⟩, ⟨ht0, ht1⟩⟩ := hbs
  have HM : Hid ((0 ≤ cm ∧ cm < 18446744073709551616) ∧ (0 ≤ cl ∧ cl < 18446744073709551616) ∧ (0 ≤ co ∧ co < 18446744073709551616) ∧ 0 ≤ ct ∧ ct < 18446744073709551616) := Lib.hid ⟨⟨hm0, hm1⟩, ⟨hl0, hl1⟩, ⟨ho0, ho1⟩, ht0, ht1⟩
  have HRS : Hid (Rs w0 ra rn rcap xs) := hc.1
  have HLX : Hid (xs.length = rn) := HRS.out.1
  have hrc := HRS.out.2.1
  have hrm := HRS.out.2.2.1
  unfold maxLen at hrm
  have HQ := Lib.hid hq
  have HLEN : Hid (zs.length = qn) := HQ.out.1
  have hqc := hq.2.1
  have hqm := hq.2.2.1
  unfold maxLen at hqm
  have H8 := Lib.hid h8
  have HB0 := Lib.hid hb0
  dsimp only at hk
  have hi20 : i ≤ 20 := by omega
  have hiq : i ≤ qn := by omega
  have hin : (i : Int) < (qn : Int) := by omega
  have hi0 : (0 : Int) ≤ (i : Int) := by omega
  have HI := Lib.hid hi
  have hilt : i < qn := by omega
  have hin1 : ¬ (i : Int) + 1 < (qn : Int) := by omega
  have hin2 : decide ((i : Int) + 1 < (qn : Int)) = false := decide_eq_false hin1
  clear hc hq h8 hb0 hm0 hm1 hl0 hl1 ho0 ho1 ht0 ht1 hi
  show Calls _ _ #[.agg #[.int .u64 cm, .int .u64 cl, .int .u64 co, .int .u64 ct, .slice ra rn rcap], .slice qa qn qc, .int .i64 (i : Int)] w _
  go_enter Try.func21, Try.ntmps21
  go_wp2
  obtain ⟨W0, hW0⟩ : ∃ W0, W0 = w.alloc (.cells #[.int .u64 cm, .int .u64 cl, .int .u64 co, .int .u64 ct, .slice ra rn rcap] 25) := ⟨_, rfl⟩
  have HKP : Hid (∀ W, Below W0.heap.size W0 W → W.cell? ⟨w.heap.size, 0, none⟩ = some (.int .u64 cm) ∧ W.cell? ⟨w.heap.size, 1, none⟩ = some (.int .u64 cl) ∧ W.cell? ⟨w.heap.size, 2, none⟩ = some (.int .u64 co) ∧ W.cell? ⟨w.heap.size, 3, none⟩ = some (.int .u64 ct) ∧ W.cell? ⟨w.heap.size, 4, none⟩ = some (.slice ra rn rcap)) := Lib.hid fun W hb => by
    have h := (hb.block w.heap.size (by rw [hW0]; simp)).trans (show W0.heap[w.heap.size]? = some (.cells #[.int .u64 cm, .int .u64 cl, .int .u64 co, .int .u64 ct, .slice ra rn rcap] 25 (0, 0)) by rw [hW0]; exact heap_alloc_new w _)
    refine ⟨?_, ?_, ?_, ?_, ?_⟩ <;> (rw [cell_of_row W _ _ _ _ _ h]; rfl)
  have HW : Hid (Below w.heap.size w W0) := Lib.hid (by rw [hW0]; exact (Below.refl _ w).alloc (Nat.le_refl _) _)
  have HW00 : Hid (Below w0.heap.size w0 W0) := Lib.hid (HB0.out.trans (HW.out.mono HB0.out.size))
  have HBP : Hid (BaseP W0 W0 none 0 0 []) := Lib.hid (BaseP.start W0 W0 (Below.refl _ _))
  have HBA : Hid (Below W0.heap.size W0 W0.drew) := Lib.hid (below_drawn (Below.refl _ _) ⟨1, rfl⟩)
  obtain ⟨qb, qo, rfl, hqb, hqcl⟩ := (HQ.out.below HW00.out (Nat.le_refl _)).at (by omega)
  obtain ⟨z0, hz0⟩ : ∃ z, z = zs.getD i 0 := ⟨_, rfl⟩
  have hq0 := hqcl i (by omega)
  rw [← hz0] at hq0
  have hwf : ∀ k, k < qn → (Lit.int .i64 (zs.getD k 0)).wf = true := fun k hk => HQ.out.2.2.2.1 _ (by
    rw [List.getD_eq_getElem?_getD, List.getElem?_eq_getElem (by rw [HQ.out.1]; exact hk), Option.getD_some]; exact List.getElem_mem _)
  have HZW : Hid ((Lit.int .i64 z0).wf = true ∧ True) := Lib.hid ⟨by rw [hz0]; exact hwf i (by omega), trivial⟩
  have HKQ : Hid (∀ W, Below W0.heap.size W0 W → W.cell? ⟨w.heap.size, 0, none⟩ = some (.int .u64 cm) ∧ W.cell? ⟨w.heap.size, 1, none⟩ = some (.int .u64 cl) ∧ W.cell? ⟨w.heap.size, 2, none⟩ = some (.int .u64 co) ∧ W.cell? ⟨w.heap.size, 3, none⟩ = some (.int .u64 ct) ∧ W.cell? ⟨w.heap.size, 4, none⟩ = some (.slice ra rn rcap) ∧ W.cell? ⟨qb, qo + i, none⟩ = some (.int .i64 z0)) := Lib.hid fun W hb => by
    obtain ⟨k0, k1, k2, k3, k4⟩ := HKP.out W hb
    exact ⟨k0, k1, k2, k3, k4, (hb.cell (p := ⟨qb, qo + i, none⟩) hqb).trans hq0⟩
  have HE0 : Hid (z0 = (zs.drop i).getD 0 0) := Lib.hid (by rw [drop_at]; exact hz0)
  have HDL : Hid ((zs.drop i).length = qn - i) := Lib.hid (by rw [List.length_drop, HLEN.out])
  rw [← hW0]
  clear hW0 hqcl hq0 hwf hz0
  go_wp2
  refine wp_region_held_drew (S := (fun W => W.cell? ⟨w.heap.size, 0, none⟩ = some (.int .u64 cm) ∧ W.cell? ⟨w.heap.size, 1, none⟩ = some (.int .u64 cl) ∧ W.cell? ⟨w.heap.size, 2, none⟩ = some (.int .u64 co) ∧ W.cell? ⟨w.heap.size, 3, none⟩ = some (.int .u64 ct) ∧ W.cell? ⟨w.heap.size, 4, none⟩ = some (.slice ra rn rcap) ∧ W.cell? ⟨qb, qo + i, none⟩ = some (.int .i64 z0))) (by kernel_rfl) (by first | (exact HKQ.out _ (by first | exact HBF.out | exact HBE.out _ | exact HBB.out | exact HBA.out)) | ((try dsimp only); exact HKQ.out _ (by first | exact HBF.out | exact HBE.out _ | exact HBB.out | exact HBA.out))) (fun hHeld => ?_)
  refine wpAnyH_take (i := 0) (v := ?vk1) rfl (by kernel_rfl) (by kernel_rfl) (by kernel_rfl) (fun _ _ _ h => h) (Or.inl ⟨by rfl, ?hk1⟩) (by assumption) ?rk1
  case hk1 => intro w hSw; (try dsimp only at hSw); go_simp; try with_reducible rfl
  simp only [Act.put, List.getElem_toArray, List.getElem_cons_succ, List.getElem_cons_zero, List.setIfInBounds_toArray, List.set_cons_succ, List.set_cons_zero]
  refine wpAnyH_take (i := 1) (v := ?vk4) rfl (by kernel_rfl) (by kernel_rfl) (by kernel_rfl) (fun _ _ _ h => h) (Or.inl ⟨by rfl, ?hk4⟩) (by assumption) ?rk4
  case hk4 => intro w hSw; (try dsimp only at hSw); go_simp; try with_reducible rfl
  simp only [Act.put, List.getElem_toArray, List.getElem_cons_succ, List.getElem_cons_zero, List.setIfInBounds_toArray, List.set_cons_succ, List.set_cons_zero]
  refine wpAnyH_take (i := 2) (v := ?vk7) rfl (by kernel_rfl) (by kernel_rfl) (by kernel_rfl) (fun _ _ _ h => h) (Or.inl ⟨by rfl, ?hk7⟩) (by assumption) ?rk7
  case hk7 => intro w hSw; (try dsimp only at hSw); go_simp; try with_reducible rfl
  simp only [Act.put, List.getElem_toArray, List.getElem_cons_succ, List.getElem_cons_zero, List.setIfInBounds_toArray, List.set_cons_succ, List.set_cons_zero]
  refine wpAnyH_take (i := 3) (v := ?vk10) rfl (by kernel_rfl) (by kernel_rfl) (by kernel_rfl) (fun _ _ _ h => h) (Or.inl ⟨by rfl, ?hk10⟩) (by assumption) ?rk10
  case hk10 => intro w hSw; (try dsimp only at hSw); go_simp; try with_reducible rfl
  simp only [Act.put, List.getElem_toArray, List.getElem_cons_succ, List.getElem_cons_zero, List.setIfInBounds_toArray, List.set_cons_succ, List.set_cons_zero]
  refine wpAnyH_take (i := 4) (v := ?vk13) rfl (by kernel_rfl) (by kernel_rfl) (by kernel_rfl) (fun _ _ _ h => h) (Or.inl ⟨by rfl, ?hk13⟩) (by assumption) ?rk13
  case hk13 => intro w hSw; (try dsimp only at hSw); go_simp; try with_reducible rfl
  simp only [Act.put, List.getElem_toArray, List.getElem_cons_succ, List.getElem_cons_zero, List.setIfInBounds_toArray, List.set_cons_succ, List.set_cons_zero]
  refine wpAnyH_take (i := 7) (v := ?vk16) rfl (by kernel_rfl) (by kernel_rfl) (by kernel_rfl) (fun _ _ _ h => h) (Or.inl ⟨by rfl, ?hk16⟩) (by assumption) ?rk16
  case hk16 => intro w hSw; (try dsimp only at hSw); go_simp; try with_reducible rfl
  simp only [Act.put, List.getElem_toArray, List.getElem_cons_succ, List.getElem_cons_zero, List.setIfInBounds_toArray, List.set_cons_succ, List.set_cons_zero]
  refine wpAnyH_take (i := 8) (v := ?vk19) rfl (by kernel_rfl) (by kernel_rfl) (by kernel_rfl) (fun _ _ _ h => h) (Or.inl ⟨by rfl, ?hk19⟩) (by assumption) ?rk19
  case hk19 => intro w hSw; (try dsimp only at hSw); go_simp; try with_reducible rfl
  simp only [Act.put, List.getElem_toArray, List.getElem_cons_succ, List.getElem_cons_zero, List.setIfInBounds_toArray, List.set_cons_succ, List.set_cons_zero]
  refine wpAnyH_take (i := 9) (v := ?vk22) rfl (by kernel_rfl) (by kernel_rfl) (by kernel_rfl) (fun _ _ _ h => h) (Or.inl ⟨by rfl, ?hk22⟩) (by assumption) ?rk22
  case hk22 => intro w hSw; (try dsimp only at hSw); go_simp; try with_reducible rfl
  simp only [Act.put, List.getElem_toArray, List.getElem_cons_succ, List.getElem_cons_zero, List.setIfInBounds_toArray, List.set_cons_succ, List.set_cons_zero]
  refine wpAnyH_take (i := 10) (v := ?vk25) rfl (by kernel_rfl) (by kernel_rfl) (by kernel_rfl) (fun _ _ _ h => h) (Or.inl ⟨by rfl, ?hk25⟩) (by assumption) ?rk25
  case hk25 => intro w hSw; (try dsimp only at hSw); go_simp; try with_reducible rfl
  simp only [Act.put, List.getElem_toArray, List.getElem_cons_succ, List.getElem_cons_zero, List.setIfInBounds_toArray, List.set_cons_succ, List.set_cons_zero]
  refine wpAnyH_take (i := 11) (v := ?vk28) rfl (by kernel_rfl) (by kernel_rfl) (by kernel_rfl) (fun _ _ _ h => h) (Or.inl ⟨by rfl, ?hk28⟩) (by assumption) ?rk28
  case hk28 => intro w hSw; (try dsimp only at hSw); go_simp; try with_reducible rfl
  simp only [Act.put, List.getElem_toArray, List.getElem_cons_succ, List.getElem_cons_zero, List.setIfInBounds_toArray, List.set_cons_succ, List.set_cons_zero]
  refine wpAnyH_take (i := 12) (v := ?vk31) rfl (by kernel_rfl) (by kernel_rfl) (by kernel_rfl) (fun _ _ _ h => h) (Or.inl ⟨by rfl, ?hk31⟩) (by assumption) ?rk31
  case hk31 => intro w hSw; (try dsimp only at hSw); go_simp; try with_reducible rfl
  simp only [Act.put, List.getElem_toArray, List.getElem_cons_succ, List.getElem_cons_zero, List.setIfInBounds_toArray, List.set_cons_succ, List.set_cons_zero]
  refine wpAnyH_ready (rs := [5]) (by kernel_rfl) (by simp) ?_
  refine AllReadyH.cons rfl (fun K hK => ?_) AllReadyH.nil
  go_simp
  have HBB : Hid (Below W0.heap.size W0 (W0.drew.alloc (.cells #[.int .i64 z0] 3))) := Lib.hid (HBA.out.alloc HBA.out.size _)
  have HLIT : Hid (∀ x ∈ ([⟨1, some ⟨W0.drew.heap.size, 0, none⟩, 1, 1, [z0], false, 0⟩, ⟨1, none, 0, 0, [], true, co⟩, ⟨1, none, 0, 0, [], false, cl⟩] : List Pw), x.New W0 (W0.drew.alloc (.cells #[.int .i64 z0] 3))) := Lib.hid (by
    intro x hx
    simp only [List.mem_cons, List.not_mem_nil, or_false] at hx
    rcases hx with rfl | rfl | rfl
    · exact Pw.New.new (Sl.newI [z0] (by intro y hy; rw [List.mem_singleton.1 hy]; exact HZW.out.1) (by unfold maxLen; simp) rfl rfl rfl) (heap_alloc_new W0.drew _) (Nat.le_refl _) (by decide) (by decide) (by decide)
    · exact Pw.New.none (by decide) HM.out.2.2.1.1 HM.out.2.2.1.2
    · exact Pw.New.none (by decide) HM.out.2.1.1 HM.out.2.1.2)
  have HLV : Hid (Below W0.heap.size W0 (W0.drew.alloc (.cells #[.int .i64 z0] 3))) := HBB
  refine hK.out _ _ (by first | (exact HKQ.out _ (by first | exact HBF.out | exact HBE.out _ | exact HBB.out | exact HBA.out)) | ((try dsimp only); exact HKQ.out _ (by first | exact HBF.out | exact HBE.out _ | exact HBB.out | exact HBA.out))) (fun hHeld => ?_)
  clear hK K
  try simp only [Act.put, List.getElem_toArray, List.getElem_cons_succ, List.getElem_cons_zero, List.setIfInBounds_toArray, List.set_cons_succ, List.set_cons_zero]
  refine wpAnyH_take (i := 6) (v := ?vk49) rfl (by kernel_rfl) (by kernel_rfl) (by kernel_rfl) (fun _ _ _ h => h) (Or.inl ⟨by rfl, ?hk49⟩) (by assumption) ?rk49
  case hk49 => intro w hSw; (try dsimp only at hSw); go_simp; try with_reducible rfl
  simp only [Act.put, List.getElem_toArray, List.getElem_cons_succ, List.getElem_cons_zero, List.setIfInBounds_toArray, List.set_cons_succ, List.set_cons_zero]
  refine wpAnyH_ready (rs := [13]) (by kernel_rfl) (by simp) ?_
  refine AllReadyH.cons rfl (fun K hK => ?_) AllReadyH.nil
  go_simp
  have HBE : Hid (∀ o, Below W0.heap.size W0 ((W0.drew.alloc (.cells #[.int .i64 z0] 3)).alloc o)) := Lib.hid fun o => HBB.out.alloc HBB.out.size _
  refine hK.out _ _ (by first | (exact HKQ.out _ (by first | exact HBF.out | exact HBE.out _ | exact HBB.out | exact HBA.out)) | ((try dsimp only); exact HKQ.out _ (by first | exact HBF.out | exact HBE.out _ | exact HBB.out | exact HBA.out))) (fun hHeld => ?_)
  clear hK K
  try simp only [Act.put, List.getElem_toArray, List.getElem_cons_succ, List.getElem_cons_zero, List.setIfInBounds_toArray, List.set_cons_succ, List.set_cons_zero]
  refine wpAnyH_ready (rs := [14]) (by kernel_rfl) (by simp) ?_
  refine AllReadyH.cons rfl (fun K hK => ?_) AllReadyH.nil
  refine step_append_steps (by rfl) (.tmp 15) (.tmp 28) (by rfl) W0.heap.size _ 0 [] (by rfl) (by exact (HBP.out.below (HLV.out.alloc HLV.out.size _)).made.own) (some ⟨W0.heap.size + 1, 0, none⟩) 3 3 ([⟨1, some ⟨W0.drew.heap.size, 0, none⟩, 1, 1, [z0], false, 0⟩, ⟨1, none, 0, 0, [], true, co⟩, ⟨1, none, 0, 0, [], false, cl⟩] : List Pw) (by rfl) (by exact Ps.newc ([⟨1, some ⟨W0.drew.heap.size, 0, none⟩, 1, 1, [z0], false, 0⟩, ⟨1, none, 0, 0, [], true, co⟩, ⟨1, none, 0, 0, [], false, cl⟩] : List Pw) (fun x hx => (HLIT.out x hx).1.1) (by unfold maxLen; simp) (by rw [World.size_alloc]) rfl rfl) 3 (by omega) (by omega) (HBE.out _).size (Below.refl _ _) ?_
  intro a5 c5 w5 hown5 hb5 hgrow5 hnil5
  have HBF : Hid (Below W0.heap.size W0 w5) := Lib.hid ((HBE.out _).trans hb5)
  have HBQ : Hid (BaseP W0 w5 a5 3 c5 ([] ++ ([⟨1, some ⟨W0.drew.heap.size, 0, none⟩, 1, 1, [z0], false, 0⟩, ⟨1, none, 0, 0, [], true, co⟩, ⟨1, none, 0, 0, [], false, cl⟩] : List Pw))) := Lib.hid (HBP.out.push (HLV.out.alloc HLV.out.size _) (fun x hx => (HLIT.out x hx).below ((Below.refl _ (W0.drew.alloc (.cells #[.int .i64 z0] 3))).alloc (Nat.le_refl _) _)) (by simp [Pw.blk]) (by rw [HBP.out.made.len]; rfl) hown5 hb5 hgrow5)
  clear hown5 hb5 hgrow5 hnil5
  refine hK.out _ _ (by first | (exact HKQ.out _ (by first | exact HBF.out | exact HBE.out _ | exact HBB.out | exact HBA.out)) | ((try dsimp only); exact HKQ.out _ (by first | exact HBF.out | exact HBE.out _ | exact HBB.out | exact HBA.out))) (fun hHeld => ?_)
  clear hK K
  try simp only [Act.put, List.getElem_toArray, List.getElem_cons_succ, List.getElem_cons_zero, List.setIfInBounds_toArray, List.set_cons_succ, List.set_cons_zero]
  refine wpAnyH_take (i := 15) (v := ?vk69) rfl (by kernel_rfl) (by kernel_rfl) (by kernel_rfl) (fun _ _ _ h => h) (Or.inl ⟨by rfl, ?hk69⟩) (by assumption) ?rk69
  case hk69 => intro w hSw; (try dsimp only at hSw); go_simp; try with_reducible rfl
  simp only [Act.put, List.getElem_toArray, List.getElem_cons_succ, List.getElem_cons_zero, List.setIfInBounds_toArray, List.set_cons_succ, List.set_cons_zero]
  refine wpAnyH_done (by kernel_rfl) ?_ _
  have HST3 : Hid (stps ([] ++ ([⟨1, some ⟨W0.drew.heap.size, 0, none⟩, 1, 1, [z0], false, 0⟩, ⟨1, none, 0, 0, [], true, co⟩, ⟨1, none, 0, 0, [], false, cl⟩] : List Pw)) = [⟨1, [z0], false, 0⟩, ⟨1, [], true, co⟩, ⟨1, [], false, cl⟩]) := Lib.hid rfl
  generalize ([] ++ ([⟨1, some ⟨W0.drew.heap.size, 0, none⟩, 1, 1, [z0], false, 0⟩, ⟨1, none, 0, 0, [], true, co⟩, ⟨1, none, 0, 0, [], false, cl⟩] : List Pw) : List Pw) = outs3 at HBQ HST3
  clear HBB HBE HLIT HLV HBP hHeld
  go_wp2
  go_quiet (fail)
  generalize hV : w5.drewN nq = V
  have HBX : Hid (Below W0.heap.size W0 V) := Lib.hid (by rw [← hV]; exact below_drawn HBF.out ⟨_, rfl⟩)
  have HBP : Hid (BaseP W0 V a5 3 c5 outs3) := Lib.hid (by rw [← hV]; exact HBQ.out.below (below_drawn (Below.refl _ _) ⟨_, rfl⟩))
  clear hV HBQ HBF HBA
  have HST : Hid (stps outs3 = Stp.one (Cw.c ⟨cm, cl, co, ct, ra, rn, rcap, xs⟩) (zs.drop i) ++ Stp.two (Cw.c ⟨cm, cl, co, ct, ra, rn, rcap, xs⟩) (zs.drop i)) := Lib.hid (by
    rw [HST3.out, Stp.one_is _ (by rw [HDL.out]; have := HI.out; omega), Stp.two_is, if_neg (by rw [unlike_short (by rw [HDL.out]; have := HI.out; omega)]; decide), List.append_nil, ← HE0.out]; rfl)
  obtain ⟨k0, k1, k2, k3, k4⟩ := HKP.out _ HBX.out
  go_wp2_with (first
    | (at_builtin; refine append_steps (by rfl) (.tmp 63) (.tmp 67) (by rfl) W0.heap.size _ 3 outs3 (by rfl) (by exact (HBP.out.below ((Below.refl _ V).alloc (Nat.le_refl _) _)).made.own) (some ⟨V.heap.size, 0, none⟩) 1 1 [⟨0, none, 0, 0, [], true, cm⟩] (by rfl) (by exact Ps.newc [⟨0, none, 0, 0, [], true, cm⟩] (by intro x hx; rw [List.mem_singleton.1 hx]; exact ⟨Sl.nil, (by decide : (Lit.int .i64 0).wf = true), HM.out.1⟩) (by unfold maxLen; simp) rfl rfl rfl) 4 (by omega) (by omega) (by have := HBX.out.size; simp; omega) ?_; intro a9 c9 w9 hown9 hb9 hgrow9 hnil9)
    | fail)
  have HB9 : Hid (Below W0.heap.size W0 w9) := Lib.hid ((HBX.out.alloc HBX.out.size _).trans hb9)
  have HOWN : Hid (MadeP w0 w9 W0.heap.size a9 4 c9 (outs3 ++ [⟨0, none, 0, 0, [], true, cm⟩])) := Lib.hid (by
    have h := HBP.out.push ((Below.refl _ V).alloc (Nat.le_refl _) _) (fun x hx => by rw [List.mem_singleton.1 hx]; exact Pw.New.none (by decide) HM.out.1.1 HM.out.1.2) (List.pairwise_singleton _ _) (by rw [HBP.out.made.len]; rfl) hown9 hb9 hgrow9
    exact ⟨h.made.own, fun x hx => (h.new x hx).1.ok, h.made.len, HW00.out.trans (HB9.out.mono HW00.out.size)⟩)
  have HN9 := Lib.hid hnil9
  obtain ⟨outs9, ho9⟩ : ∃ l, l = outs3 ++ [(⟨0, none, 0, 0, [], true, cm⟩ : Pw)] := ⟨_, rfl⟩
  have HST9 : Hid (stps outs9 ++ Stp.ruled (zs.drop i) (ruls xs) = Stp.here (Cw.c ⟨cm, cl, co, ct, ra, rn, rcap, xs⟩) (zs.drop i)) := Lib.hid (by
    rw [ho9, stps_app, HST.out]; rfl)
  rw [← ho9] at HOWN
  clear hown9 hb9 hgrow9 hnil9 ho9 k0 k1 k2 k3 k4 HBX HBP HST
  go_loopw [7, 8, 9, 10] (fun ov kv rv nv wr => ∃ (k m c : Nat) (a : Option Addr) (outs : List Pw), ov = .slice a m c ∧ kv = .int .i64 (k : Int) ∧ k ≤ rn ∧ m ≤ 4 + k ∧ Hid (MadeP w0 wr W0.heap.size a m c outs) ∧ Hid (a = none → c = 0) ∧ Hid (stps outs = stps outs9 ++ Stp.ruled (zs.drop i) ((ruls xs).take k)) ∧ Hid (Below W0.heap.size W0 wr)) (fun _ kv _ _ _ => rn - (intOf kv).toNat)
  case atStart => exact ⟨0, 4, c9, a9, _, rfl, rfl, Nat.zero_le _, by omega, HOWN.out, HN9.out, by show _ = _; simp [Stp.ruled], HB9.out⟩
  case round =>
    obtain ⟨k, m, c, a, outs, rfl, rfl, hk1, hm1', HO, HN, HT, HBR⟩ := hrel
    obtain ⟨k0, k1, k2, k3, hrl⟩ := HKP.out wr HBR.out
    clear k0 k1 k2 k3
    have HBX : Hid (Below w0.heap.size w0 wr) := HO.out.bel
    by_cases hlt : k < rn
    · obtain ⟨rb, ro, la, ln, lc, L, ya, yn, yc, R, C, rfl, hrb, e1, e2, e3, hsL, hsR, hC0, hC9, hg⟩ := (HRS.out.below HBX.out (Nat.le_refl _)).one k hlt
      have hat : (ruls xs).getD k Rul.no = ⟨L, R, C⟩ := by rw [ruls_at, hg]; rfl
      have hkx : k < (ruls xs).length := by rw [ruls_length, HLX.out]; exact hlt
      have hln8 : ln ≤ 8 := by
        rw [← hsL.1]
        exact H8.out ⟨L, R, C⟩ (by rw [← hat, List.getD_eq_getElem?_getD, List.getElem?_eq_getElem hkx, Option.getD_some]; exact List.getElem_mem _)
      have HSL := Lib.hid hsL
      have HAT := Lib.hid hat
      have hli : (k : Int) < (rn : Int) := by omega
      have HQr : Hid (Sl .i64 wr (some ⟨qb, qo, none⟩) qn qc zs) := HQ.out.below HBX.out (Nat.le_refl _)
      have hnx := Stp.ruled_take (rest := zs.drop i) hkx
      rw [HAT.out] at hnx
      have HNX := Lib.hid hnx
      have hgr := HRS.out.good k
      rw [hg] at hgr
      have HGN : Hid ((⟨(ln : Int), ya, yn, yc, R, false, C⟩ : Pw).Good w0) := Lib.hid ⟨hgr.2.1, WalkArith.wf_i64 (n := (ln : Int)) ⟨by omega, by omega⟩, hC0, hC9⟩
      clear hnx hgr hg hat hsL hsR
      go_wp2
      obtain ⟨W2, hW2⟩ : ∃ W2, W2 = wr.alloc (.cells #[.slice la ln lc, .slice ya yn yc, .int .u64 C] 41) := ⟨_, rfl⟩
      have HA2 : Hid (Below wr.heap.size wr W2) := by rw [hW2]; exact (Below.refl _ wr).alloc (Nat.le_refl _) _
      have HC2 : Hid (W2.cell? ⟨wr.heap.size, 0, none⟩ = some (.slice la ln lc) ∧ W2.cell? ⟨wr.heap.size, 1, none⟩ = some (.slice ya yn yc) ∧ W2.cell? ⟨wr.heap.size, 2, none⟩ = some (.int .u64 C)) := by
        rw [hW2]
        exact ⟨by rw [World.cell?_alloc_mark]; rfl, by rw [World.cell?_alloc_mark]; rfl, by rw [World.cell?_alloc_mark]; rfl⟩
      rw [← hW2]
      clear hW2
      have HO2 : Hid (∀ q, MadeP w0 (W2.drewN q) W0.heap.size a m c outs ∧ Below W0.heap.size W0 (W2.drewN q)) := Lib.hid fun q =>
        ⟨(HO.out.below HA2.out).drawn ⟨q, rfl⟩, below_drawn (HBR.out.trans (HA2.out.mono HBR.out.size)) ⟨q, rfl⟩⟩
      by_cases hge : i + ln ≤ qn
      · have hle : (i : Int) + (ln : Int) ≤ (qn : Int) := by omega
        have hle2 : decide ((i : Int) + (ln : Int) ≤ (qn : Int)) = true := decide_eq_true hle
        have HPC : Hid (∀ W, Sl .i64 W (some ⟨qb, qo, none⟩) qn qc zs → Sl .i64 W (some ⟨qb, qo + i, none⟩) ln (qc - i) ((zs.drop i).take ln)) := Lib.hid fun W h => h.piece i ln (by omega)
        have hc20 := HC2.out.1
        have hk1 : (0 : Int) ≤ (i : Int) := by omega
        have hk2 : (i : Int) ≤ (i : Int) + (ln : Int) := by omega
        have hk3 : (i : Int) + (ln : Int) ≤ (qc : Int) := by omega
        have hk4 : (i : Int) ≤ (qc : Int) := by omega
        have hk5 : i ≤ qc := by omega
        have hk6 : (i : Int) + (ln : Int) - (i : Int) = (ln : Int) := by omega
        have hne1 : ¬ qc = i := by omega
        have hne2 : ¬ i = qc := by omega
        have hk7 : (qc : Int) - (i : Int) = ((qc - i : Nat) : Int) := by omega
        by_cases hs : (zs.drop i).take ln = L
        · have HD : Hid (decide ((zs.drop i).take ln = L) = true) := Lib.hid (decide_eq_true hs)
          have HLL : Hid (L.length = ln) := HSL.out.1
          have HYS : Hid (Stp.stands (zs.drop i) ⟨L, R, C⟩ = true) := by
            unfold Stp.stands
            rw [show (⟨L, R, C⟩ : Rul).L.length = ln from HSL.out.1]
            exact HD.out
          clear hs
          go_quiet (exact Calls.quiet_of (same_is _ la ln ln (qc - i) lc ((zs.drop i).take ln) L true _ (HPC.out _ ((HQr.out.below HA2.out (Nat.le_refl _)).drewN _)) ((HSL.out.below HA2.out (Nat.le_refl _)).drewN _) HD.out))
          generalize hW3 : W2.drewN nq = W3
          have HO3 : Hid (MadeP w0 W3 W0.heap.size a m c outs ∧ Below W0.heap.size W0 W3) := by rw [← hW3]; exact HO2.out _
          have HC3 : Hid (W3.cell? ⟨wr.heap.size, 1, none⟩ = some (.slice ya yn yc) ∧ W3.cell? ⟨wr.heap.size, 2, none⟩ = some (.int .u64 C)) := by rw [← hW3]; exact HC2.out.2
          have HG3 : Hid ((⟨(ln : Int), ya, yn, yc, R, false, C⟩ : Pw).Good W3) := HGN.out.below HO3.out.1.bel (Nat.le_refl _)
          clear hW3 hc20
          have hc31 := HC3.out.1
          have hc32 := HC3.out.2
          go_wp2_with (first
            | (at_builtin; refine append_steps (by rfl) (.tmp 101) (.tmp 108) (by rfl) W0.heap.size _ m outs (by rfl) (by exact (HO3.out.1.below ((Below.refl _ W3).alloc (Nat.le_refl _) _)).own) (some ⟨W3.heap.size, 0, none⟩) 1 1 [⟨(ln : Int), ya, yn, yc, R, false, C⟩] (by rfl) (by exact Ps.newc [⟨(ln : Int), ya, yn, yc, R, false, C⟩] (by intro x hx; rw [List.mem_singleton.1 hx]; exact HG3.out) (by unfold maxLen; simp) rfl rfl rfl) (m + 1) (by omega) (by omega) (by have := HO3.out.2.size; simp; omega) ?_; intro a6 c6 w6 hown6 hb6 hgrow6 hnil6)
            | fail)
          have HO6 : Hid (MadeP w0 w6 W0.heap.size a6 (m + 1) c6 (outs ++ [⟨(ln : Int), ya, yn, yc, R, false, C⟩])) := Lib.hid ((HO3.out.1.below ((Below.refl _ W3).alloc (Nat.le_refl _) _)).push HW00.out.size (fun x hx => by rw [List.mem_singleton.1 hx]; exact .inl HGN.out) (by rw [HO3.out.1.len]; rfl) hown6 hb6 hgrow6)
          have HB6 : Hid (Below W0.heap.size W0 w6) := Lib.hid ((HO3.out.2.alloc HO3.out.2.size _).trans hb6)
          have HN6 := Lib.hid hnil6
          clear hown6 hb6 hgrow6 hnil6 hc31 hc32
          go_wp2
          go_roundw
          case rel => exact ⟨k + 1, m + 1, c6, a6, _, by go_num, by go_num, by omega, by omega, HO6.out, HN6.out, (by show _ = _; rw [HNX.out, HYS.out, stps_app, HT.out, List.append_assoc]; simp [stps, Pw.s, Stp.step, HLL.out]), HB6.out⟩
          case measure => simp [intOf]; omega
        · have HD : Hid (decide ((zs.drop i).take ln = L) = false) := Lib.hid (decide_eq_false hs)
          have HNS : Hid (Stp.stands (zs.drop i) ⟨L, R, C⟩ = false) := by
            unfold Stp.stands
            rw [show (⟨L, R, C⟩ : Rul).L.length = ln from HSL.out.1]
            exact HD.out
          clear hs
          go_quiet (exact Calls.quiet_of (same_is _ la ln ln (qc - i) lc ((zs.drop i).take ln) L false _ (HPC.out _ ((HQr.out.below HA2.out (Nat.le_refl _)).drewN _)) ((HSL.out.below HA2.out (Nat.le_refl _)).drewN _) HD.out))
          go_wp2
          go_roundw
          case rel => exact ⟨k + 1, m, c, a, outs, rfl, by go_num, by omega, by omega, (HO2.out _).1, HN.out, (by show _ = _; rw [HNX.out, HNS.out, HT.out]; simp), (HO2.out _).2⟩
          case measure => simp [intOf]; omega
      · have HNS : Hid (Stp.stands (zs.drop i) ⟨L, R, C⟩ = false) := Stp.stands_no (by rw [List.length_drop, HQ.out.1]; show qn - i < L.length; rw [HSL.out.1]; omega)
        have hle : ¬ (i : Int) + (ln : Int) ≤ (qn : Int) := by omega
        have hle2 : decide ((i : Int) + (ln : Int) ≤ (qn : Int)) = false := decide_eq_false hle
        go_quiet (fail)
        go_wp2
        go_roundw
        case rel => exact ⟨k + 1, m, c, a, outs, rfl, by go_num, by omega, by omega, (HO2.out _).1, HN.out, (by show _ = _; rw [HNX.out, HNS.out, HT.out]; simp), (HO2.out _).2⟩
        case measure => simp [intOf]; omega
    · obtain rfl : k = rn := by omega
      go_wp2
      go_ret
      exact ⟨a, m, c, outs, rfl, HO.out.lower17 HW.out.size, by rw [HT.out, ← HST9.out, List.take_of_length_le (by rw [ruls_length, HLX.out]; exact Nat.le_refl _)], HN.out, HW.out.trans (HBR.out.mono HW.out.size)⟩

theorem rat17_same (c : Cw) (qa : Option Addr) (qn qc : Nat) (zs : List Int) (i : Nat) (w0 w : World) (hb0 : Below w0.heap.size w0 w) (hc : c.Good w0) (hq : Sl .i64 w0 qa qn qc zs) (hq20 : qn ≤ 20) (hk : c.n ≤ 200) (h8 : ∀ x ∈ ruls c.xs, x.L.length ≤ 8) (hi : i + 2 ≤ qn) (he : (zs.drop i).getD 0 0 = (zs.drop i).getD 1 0) :
    Calls Try.prog 21 #[c.v, .slice qa qn qc, .int .i64 (i : Int)] w fun e w' => StepsIs w0 w w' e (Stp.here c.c (zs.drop i)) := by
  have hmx : Try.prog.follows .mixedOrders = true := by kernel_rfl
  obtain ⟨cm, cl, co, ct, ra, rn, rcap, xs⟩ := c
  have hbs := hc.2
  simp only [Cw.base, List.mem_cons, List.not_mem_nil, or_false, forall_eq_or_imp, forall_eq] at hbs
  obtain ⟨⟨hm0, hm1⟩, ⟨hl0, hl1⟩, ⟨ho0, ho1⟩, ⟨ht0, ht1⟩⟩ := hbs
  have HM : Hid ((0 ≤ cm ∧ cm < 18446744073709551616) ∧ (0 ≤ cl ∧ cl < 18446744073709551616) ∧ (0 ≤ co ∧ co < 18446744073709551616) ∧ 0 ≤ ct ∧ ct < 18446744073709551616) := Lib.hid ⟨⟨hm0, hm1⟩, ⟨hl0, hl1⟩, ⟨ho0, ho1⟩, ht0, ht1⟩
  have HRS : Hid (Rs w0 ra rn rcap xs) := hc.1
  have HLX : Hid (xs.length = rn) := HRS.out.1
  have hrc := HRS.out.2.1
  have hrm := HRS.out.2.2.1
  unfold maxLen at hrm
  have HQ := Lib.hid hq
  have HLEN : Hid (zs.length = qn) := HQ.out.1
  have hqc := hq.2.1
  have hqm := hq.2.2.1
  unfold maxLen at hqm
  have H8 := Lib.hid h8
  have HB0 := Lib.hid hb0
  dsimp only at hk
  have HEE := Lib.hid he
  clear he
  have hi20 : i ≤ 20 := by omega
  have hiq : i ≤ qn := by omega
  have hin : (i : Int) < (qn : Int) := by omega
  have hi0 : (0 : Int) ≤ (i : Int) := by omega
  have HI := Lib.hid hi
  have hilt : i < qn := by omega
  have hin1 : (i : Int) + 1 < (qn : Int) := by omega
  have hin2 : decide ((i : Int) + 1 < (qn : Int)) = true := decide_eq_true hin1
  have hilt1 : i + 1 < qn := by omega
  clear hc hq h8 hb0 hm0 hm1 hl0 hl1 ho0 ho1 ht0 ht1 hi
  show Calls _ _ #[.agg #[.int .u64 cm, .int .u64 cl, .int .u64 co, .int .u64 ct, .slice ra rn rcap], .slice qa qn qc, .int .i64 (i : Int)] w _
  go_enter Try.func21, Try.ntmps21
  go_wp2
  obtain ⟨W0, hW0⟩ : ∃ W0, W0 = w.alloc (.cells #[.int .u64 cm, .int .u64 cl, .int .u64 co, .int .u64 ct, .slice ra rn rcap] 25) := ⟨_, rfl⟩
  have HKP : Hid (∀ W, Below W0.heap.size W0 W → W.cell? ⟨w.heap.size, 0, none⟩ = some (.int .u64 cm) ∧ W.cell? ⟨w.heap.size, 1, none⟩ = some (.int .u64 cl) ∧ W.cell? ⟨w.heap.size, 2, none⟩ = some (.int .u64 co) ∧ W.cell? ⟨w.heap.size, 3, none⟩ = some (.int .u64 ct) ∧ W.cell? ⟨w.heap.size, 4, none⟩ = some (.slice ra rn rcap)) := Lib.hid fun W hb => by
    have h := (hb.block w.heap.size (by rw [hW0]; simp)).trans (show W0.heap[w.heap.size]? = some (.cells #[.int .u64 cm, .int .u64 cl, .int .u64 co, .int .u64 ct, .slice ra rn rcap] 25 (0, 0)) by rw [hW0]; exact heap_alloc_new w _)
    refine ⟨?_, ?_, ?_, ?_, ?_⟩ <;> (rw [cell_of_row W _ _ _ _ _ h]; rfl)
  have HW : Hid (Below w.heap.size w W0) := Lib.hid (by rw [hW0]; exact (Below.refl _ w).alloc (Nat.le_refl _) _)
  have HW00 : Hid (Below w0.heap.size w0 W0) := Lib.hid (HB0.out.trans (HW.out.mono HB0.out.size))
  have HBP : Hid (BaseP W0 W0 none 0 0 []) := Lib.hid (BaseP.start W0 W0 (Below.refl _ _))
  have HBA : Hid (Below W0.heap.size W0 W0.drew) := Lib.hid (below_drawn (Below.refl _ _) ⟨1, rfl⟩)
  obtain ⟨qb, qo, rfl, hqb, hqcl⟩ := (HQ.out.below HW00.out (Nat.le_refl _)).at (by omega)
  obtain ⟨z0, hz0⟩ : ∃ z, z = zs.getD i 0 := ⟨_, rfl⟩
  have hq0 := hqcl i (by omega)
  rw [← hz0] at hq0
  obtain ⟨z1, hz1⟩ : ∃ z, z = zs.getD (i + 1) 0 := ⟨_, rfl⟩
  have hq1 := hqcl (i + 1) (by omega)
  rw [← hz1] at hq1
  have hwf : ∀ k, k < qn → (Lit.int .i64 (zs.getD k 0)).wf = true := fun k hk => HQ.out.2.2.2.1 _ (by
    rw [List.getD_eq_getElem?_getD, List.getElem?_eq_getElem (by rw [HQ.out.1]; exact hk), Option.getD_some]; exact List.getElem_mem _)
  have HZW : Hid ((Lit.int .i64 z0).wf = true ∧ (Lit.int .i64 z1).wf = true) := Lib.hid ⟨by rw [hz0]; exact hwf i (by omega), by rw [hz1]; exact hwf (i + 1) (by omega)⟩
  have HKQ : Hid (∀ W, Below W0.heap.size W0 W → W.cell? ⟨w.heap.size, 0, none⟩ = some (.int .u64 cm) ∧ W.cell? ⟨w.heap.size, 1, none⟩ = some (.int .u64 cl) ∧ W.cell? ⟨w.heap.size, 2, none⟩ = some (.int .u64 co) ∧ W.cell? ⟨w.heap.size, 3, none⟩ = some (.int .u64 ct) ∧ W.cell? ⟨w.heap.size, 4, none⟩ = some (.slice ra rn rcap) ∧ W.cell? ⟨qb, qo + i, none⟩ = some (.int .i64 z0) ∧ W.cell? ⟨qb, qo + (i + 1), none⟩ = some (.int .i64 z1)) := Lib.hid fun W hb => by
    obtain ⟨k0, k1, k2, k3, k4⟩ := HKP.out W hb
    exact ⟨k0, k1, k2, k3, k4, (hb.cell (p := ⟨qb, qo + i, none⟩) hqb).trans hq0, (hb.cell (p := ⟨qb, qo + (i + 1), none⟩) hqb).trans hq1⟩
  have HE0 : Hid (z0 = (zs.drop i).getD 0 0) := Lib.hid (by rw [drop_at]; exact hz0)
  have HE1 : Hid (z1 = (zs.drop i).getD 1 0) := Lib.hid (by rw [drop_at]; exact hz1)
  have HDL : Hid ((zs.drop i).length = qn - i) := Lib.hid (by rw [List.length_drop, HLEN.out])
  rw [← hW0]
  clear hW0 hqcl hq0 hwf hz0 hq1 hz1
  go_wp2
  refine wp_region_held_drew (S := (fun W => W.cell? ⟨w.heap.size, 0, none⟩ = some (.int .u64 cm) ∧ W.cell? ⟨w.heap.size, 1, none⟩ = some (.int .u64 cl) ∧ W.cell? ⟨w.heap.size, 2, none⟩ = some (.int .u64 co) ∧ W.cell? ⟨w.heap.size, 3, none⟩ = some (.int .u64 ct) ∧ W.cell? ⟨w.heap.size, 4, none⟩ = some (.slice ra rn rcap) ∧ W.cell? ⟨qb, qo + i, none⟩ = some (.int .i64 z0) ∧ W.cell? ⟨qb, qo + (i + 1), none⟩ = some (.int .i64 z1))) (by kernel_rfl) (by first | (exact HKQ.out _ (by first | exact HBF.out | exact HBE.out _ | exact HBB.out | exact HBA.out)) | ((try dsimp only); exact HKQ.out _ (by first | exact HBF.out | exact HBE.out _ | exact HBB.out | exact HBA.out))) (fun hHeld => ?_)
  refine wpAnyH_take (i := 0) (v := ?vk1) rfl (by kernel_rfl) (by kernel_rfl) (by kernel_rfl) (fun _ _ _ h => h) (Or.inl ⟨by rfl, ?hk1⟩) (by assumption) ?rk1
  case hk1 => intro w hSw; (try dsimp only at hSw); go_simp; try with_reducible rfl
  simp only [Act.put, List.getElem_toArray, List.getElem_cons_succ, List.getElem_cons_zero, List.setIfInBounds_toArray, List.set_cons_succ, List.set_cons_zero]
  refine wpAnyH_take (i := 1) (v := ?vk4) rfl (by kernel_rfl) (by kernel_rfl) (by kernel_rfl) (fun _ _ _ h => h) (Or.inl ⟨by rfl, ?hk4⟩) (by assumption) ?rk4
  case hk4 => intro w hSw; (try dsimp only at hSw); go_simp; try with_reducible rfl
  simp only [Act.put, List.getElem_toArray, List.getElem_cons_succ, List.getElem_cons_zero, List.setIfInBounds_toArray, List.set_cons_succ, List.set_cons_zero]
  refine wpAnyH_take (i := 2) (v := ?vk7) rfl (by kernel_rfl) (by kernel_rfl) (by kernel_rfl) (fun _ _ _ h => h) (Or.inl ⟨by rfl, ?hk7⟩) (by assumption) ?rk7
  case hk7 => intro w hSw; (try dsimp only at hSw); go_simp; try with_reducible rfl
  simp only [Act.put, List.getElem_toArray, List.getElem_cons_succ, List.getElem_cons_zero, List.setIfInBounds_toArray, List.set_cons_succ, List.set_cons_zero]
  refine wpAnyH_take (i := 3) (v := ?vk10) rfl (by kernel_rfl) (by kernel_rfl) (by kernel_rfl) (fun _ _ _ h => h) (Or.inl ⟨by rfl, ?hk10⟩) (by assumption) ?rk10
  case hk10 => intro w hSw; (try dsimp only at hSw); go_simp; try with_reducible rfl
  simp only [Act.put, List.getElem_toArray, List.getElem_cons_succ, List.getElem_cons_zero, List.setIfInBounds_toArray, List.set_cons_succ, List.set_cons_zero]
  refine wpAnyH_take (i := 4) (v := ?vk13) rfl (by kernel_rfl) (by kernel_rfl) (by kernel_rfl) (fun _ _ _ h => h) (Or.inl ⟨by rfl, ?hk13⟩) (by assumption) ?rk13
  case hk13 => intro w hSw; (try dsimp only at hSw); go_simp; try with_reducible rfl
  simp only [Act.put, List.getElem_toArray, List.getElem_cons_succ, List.getElem_cons_zero, List.setIfInBounds_toArray, List.set_cons_succ, List.set_cons_zero]
  refine wpAnyH_take (i := 7) (v := ?vk16) rfl (by kernel_rfl) (by kernel_rfl) (by kernel_rfl) (fun _ _ _ h => h) (Or.inl ⟨by rfl, ?hk16⟩) (by assumption) ?rk16
  case hk16 => intro w hSw; (try dsimp only at hSw); go_simp; try with_reducible rfl
  simp only [Act.put, List.getElem_toArray, List.getElem_cons_succ, List.getElem_cons_zero, List.setIfInBounds_toArray, List.set_cons_succ, List.set_cons_zero]
  refine wpAnyH_take (i := 8) (v := ?vk19) rfl (by kernel_rfl) (by kernel_rfl) (by kernel_rfl) (fun _ _ _ h => h) (Or.inl ⟨by rfl, ?hk19⟩) (by assumption) ?rk19
  case hk19 => intro w hSw; (try dsimp only at hSw); go_simp; try with_reducible rfl
  simp only [Act.put, List.getElem_toArray, List.getElem_cons_succ, List.getElem_cons_zero, List.setIfInBounds_toArray, List.set_cons_succ, List.set_cons_zero]
  refine wpAnyH_take (i := 9) (v := ?vk22) rfl (by kernel_rfl) (by kernel_rfl) (by kernel_rfl) (fun _ _ _ h => h) (Or.inl ⟨by rfl, ?hk22⟩) (by assumption) ?rk22
  case hk22 => intro w hSw; (try dsimp only at hSw); go_simp; try with_reducible rfl
  simp only [Act.put, List.getElem_toArray, List.getElem_cons_succ, List.getElem_cons_zero, List.setIfInBounds_toArray, List.set_cons_succ, List.set_cons_zero]
  refine wpAnyH_take (i := 10) (v := ?vk25) rfl (by kernel_rfl) (by kernel_rfl) (by kernel_rfl) (fun _ _ _ h => h) (Or.inl ⟨by rfl, ?hk25⟩) (by assumption) ?rk25
  case hk25 => intro w hSw; (try dsimp only at hSw); go_simp; try with_reducible rfl
  simp only [Act.put, List.getElem_toArray, List.getElem_cons_succ, List.getElem_cons_zero, List.setIfInBounds_toArray, List.set_cons_succ, List.set_cons_zero]
  refine wpAnyH_take (i := 11) (v := ?vk28) rfl (by kernel_rfl) (by kernel_rfl) (by kernel_rfl) (fun _ _ _ h => h) (Or.inl ⟨by rfl, ?hk28⟩) (by assumption) ?rk28
  case hk28 => intro w hSw; (try dsimp only at hSw); go_simp; try with_reducible rfl
  simp only [Act.put, List.getElem_toArray, List.getElem_cons_succ, List.getElem_cons_zero, List.setIfInBounds_toArray, List.set_cons_succ, List.set_cons_zero]
  refine wpAnyH_take (i := 12) (v := ?vk31) rfl (by kernel_rfl) (by kernel_rfl) (by kernel_rfl) (fun _ _ _ h => h) (Or.inl ⟨by rfl, ?hk31⟩) (by assumption) ?rk31
  case hk31 => intro w hSw; (try dsimp only at hSw); go_simp; try with_reducible rfl
  simp only [Act.put, List.getElem_toArray, List.getElem_cons_succ, List.getElem_cons_zero, List.setIfInBounds_toArray, List.set_cons_succ, List.set_cons_zero]
  refine wpAnyH_ready (rs := [5]) (by kernel_rfl) (by simp) ?_
  refine AllReadyH.cons rfl (fun K hK => ?_) AllReadyH.nil
  go_simp
  have HBB : Hid (Below W0.heap.size W0 (W0.drew.alloc (.cells #[.int .i64 z0] 3))) := Lib.hid (HBA.out.alloc HBA.out.size _)
  have HLIT : Hid (∀ x ∈ ([⟨1, some ⟨W0.drew.heap.size, 0, none⟩, 1, 1, [z0], false, 0⟩, ⟨1, none, 0, 0, [], true, co⟩, ⟨1, none, 0, 0, [], false, cl⟩] : List Pw), x.New W0 (W0.drew.alloc (.cells #[.int .i64 z0] 3))) := Lib.hid (by
    intro x hx
    simp only [List.mem_cons, List.not_mem_nil, or_false] at hx
    rcases hx with rfl | rfl | rfl
    · exact Pw.New.new (Sl.newI [z0] (by intro y hy; rw [List.mem_singleton.1 hy]; exact HZW.out.1) (by unfold maxLen; simp) rfl rfl rfl) (heap_alloc_new W0.drew _) (Nat.le_refl _) (by decide) (by decide) (by decide)
    · exact Pw.New.none (by decide) HM.out.2.2.1.1 HM.out.2.2.1.2
    · exact Pw.New.none (by decide) HM.out.2.1.1 HM.out.2.1.2)
  have HLV : Hid (Below W0.heap.size W0 (W0.drew.alloc (.cells #[.int .i64 z0] 3))) := HBB
  refine hK.out _ _ (by first | (exact HKQ.out _ (by first | exact HBF.out | exact HBE.out _ | exact HBB.out | exact HBA.out)) | ((try dsimp only); exact HKQ.out _ (by first | exact HBF.out | exact HBE.out _ | exact HBB.out | exact HBA.out))) (fun hHeld => ?_)
  clear hK K
  try simp only [Act.put, List.getElem_toArray, List.getElem_cons_succ, List.getElem_cons_zero, List.setIfInBounds_toArray, List.set_cons_succ, List.set_cons_zero]
  refine wpAnyH_take (i := 6) (v := ?vk49) rfl (by kernel_rfl) (by kernel_rfl) (by kernel_rfl) (fun _ _ _ h => h) (Or.inl ⟨by rfl, ?hk49⟩) (by assumption) ?rk49
  case hk49 => intro w hSw; (try dsimp only at hSw); go_simp; try with_reducible rfl
  simp only [Act.put, List.getElem_toArray, List.getElem_cons_succ, List.getElem_cons_zero, List.setIfInBounds_toArray, List.set_cons_succ, List.set_cons_zero]
  refine wpAnyH_ready (rs := [13]) (by kernel_rfl) (by simp) ?_
  refine AllReadyH.cons rfl (fun K hK => ?_) AllReadyH.nil
  go_simp
  have HBE : Hid (∀ o, Below W0.heap.size W0 ((W0.drew.alloc (.cells #[.int .i64 z0] 3)).alloc o)) := Lib.hid fun o => HBB.out.alloc HBB.out.size _
  refine hK.out _ _ (by first | (exact HKQ.out _ (by first | exact HBF.out | exact HBE.out _ | exact HBB.out | exact HBA.out)) | ((try dsimp only); exact HKQ.out _ (by first | exact HBF.out | exact HBE.out _ | exact HBB.out | exact HBA.out))) (fun hHeld => ?_)
  clear hK K
  try simp only [Act.put, List.getElem_toArray, List.getElem_cons_succ, List.getElem_cons_zero, List.setIfInBounds_toArray, List.set_cons_succ, List.set_cons_zero]
  refine wpAnyH_ready (rs := [14]) (by kernel_rfl) (by simp) ?_
  refine AllReadyH.cons rfl (fun K hK => ?_) AllReadyH.nil
  refine step_append_steps (by rfl) (.tmp 15) (.tmp 28) (by rfl) W0.heap.size _ 0 [] (by rfl) (by exact (HBP.out.below (HLV.out.alloc HLV.out.size _)).made.own) (some ⟨W0.heap.size + 1, 0, none⟩) 3 3 ([⟨1, some ⟨W0.drew.heap.size, 0, none⟩, 1, 1, [z0], false, 0⟩, ⟨1, none, 0, 0, [], true, co⟩, ⟨1, none, 0, 0, [], false, cl⟩] : List Pw) (by rfl) (by exact Ps.newc ([⟨1, some ⟨W0.drew.heap.size, 0, none⟩, 1, 1, [z0], false, 0⟩, ⟨1, none, 0, 0, [], true, co⟩, ⟨1, none, 0, 0, [], false, cl⟩] : List Pw) (fun x hx => (HLIT.out x hx).1.1) (by unfold maxLen; simp) (by rw [World.size_alloc]) rfl rfl) 3 (by omega) (by omega) (HBE.out _).size (Below.refl _ _) ?_
  intro a5 c5 w5 hown5 hb5 hgrow5 hnil5
  have HBF : Hid (Below W0.heap.size W0 w5) := Lib.hid ((HBE.out _).trans hb5)
  have HBQ : Hid (BaseP W0 w5 a5 3 c5 ([] ++ ([⟨1, some ⟨W0.drew.heap.size, 0, none⟩, 1, 1, [z0], false, 0⟩, ⟨1, none, 0, 0, [], true, co⟩, ⟨1, none, 0, 0, [], false, cl⟩] : List Pw))) := Lib.hid (HBP.out.push (HLV.out.alloc HLV.out.size _) (fun x hx => (HLIT.out x hx).below ((Below.refl _ (W0.drew.alloc (.cells #[.int .i64 z0] 3))).alloc (Nat.le_refl _) _)) (by simp [Pw.blk]) (by rw [HBP.out.made.len]; rfl) hown5 hb5 hgrow5)
  clear hown5 hb5 hgrow5 hnil5
  refine hK.out _ _ (by first | (exact HKQ.out _ (by first | exact HBF.out | exact HBE.out _ | exact HBB.out | exact HBA.out)) | ((try dsimp only); exact HKQ.out _ (by first | exact HBF.out | exact HBE.out _ | exact HBB.out | exact HBA.out))) (fun hHeld => ?_)
  clear hK K
  try simp only [Act.put, List.getElem_toArray, List.getElem_cons_succ, List.getElem_cons_zero, List.setIfInBounds_toArray, List.set_cons_succ, List.set_cons_zero]
  refine wpAnyH_take (i := 15) (v := ?vk69) rfl (by kernel_rfl) (by kernel_rfl) (by kernel_rfl) (fun _ _ _ h => h) (Or.inl ⟨by rfl, ?hk69⟩) (by assumption) ?rk69
  case hk69 => intro w hSw; (try dsimp only at hSw); go_simp; try with_reducible rfl
  simp only [Act.put, List.getElem_toArray, List.getElem_cons_succ, List.getElem_cons_zero, List.setIfInBounds_toArray, List.set_cons_succ, List.set_cons_zero]
  refine wpAnyH_done (by kernel_rfl) ?_ _
  have HST3 : Hid (stps ([] ++ ([⟨1, some ⟨W0.drew.heap.size, 0, none⟩, 1, 1, [z0], false, 0⟩, ⟨1, none, 0, 0, [], true, co⟩, ⟨1, none, 0, 0, [], false, cl⟩] : List Pw)) = [⟨1, [z0], false, 0⟩, ⟨1, [], true, co⟩, ⟨1, [], false, cl⟩]) := Lib.hid rfl
  generalize ([] ++ ([⟨1, some ⟨W0.drew.heap.size, 0, none⟩, 1, 1, [z0], false, 0⟩, ⟨1, none, 0, 0, [], true, co⟩, ⟨1, none, 0, 0, [], false, cl⟩] : List Pw) : List Pw) = outs3 at HBQ HST3
  clear HBB HBE HLIT HLV HBP hHeld
  have HEQ : Hid (z0 = z1) := Lib.hid (by rw [HE0.out, HE1.out]; exact HEE.out)
  obtain ⟨k0, k1, k2, k3, k4, k5, k6⟩ := HKQ.out _ HBF.out
  have hzz : (z0 == z1) = true := by rw [HEQ.out]; simp
  have hzn : (z0 != z1) = false := by rw [HEQ.out]; simp
  have hzd : decide (z0 = z1) = true := decide_eq_true HEQ.out
  go_wp2
  go_quiet (fail)
  generalize hV : w5.drewN nq = V
  have HBX : Hid (Below W0.heap.size W0 V) := Lib.hid (by rw [← hV]; exact below_drawn HBF.out ⟨_, rfl⟩)
  have HBP : Hid (BaseP W0 V a5 3 c5 outs3) := Lib.hid (by rw [← hV]; exact HBQ.out.below (below_drawn (Below.refl _ _) ⟨_, rfl⟩))
  clear hV HBQ HBF HBA
  clear k0 k1 k2 k3 k4 k5 k6
  have HST : Hid (stps outs3 = Stp.one (Cw.c ⟨cm, cl, co, ct, ra, rn, rcap, xs⟩) (zs.drop i) ++ Stp.two (Cw.c ⟨cm, cl, co, ct, ra, rn, rcap, xs⟩) (zs.drop i)) := Lib.hid (by
    rw [HST3.out, Stp.one_is _ (by rw [HDL.out]; omega), Stp.two_is, if_neg (by rw [unlike_no HEE.out]; decide), List.append_nil, ← HE0.out]; rfl)
  obtain ⟨k0, k1, k2, k3, k4⟩ := HKP.out _ HBX.out
  go_wp2_with (first
    | (at_builtin; refine append_steps (by rfl) (.tmp 63) (.tmp 67) (by rfl) W0.heap.size _ 3 outs3 (by rfl) (by exact (HBP.out.below ((Below.refl _ V).alloc (Nat.le_refl _) _)).made.own) (some ⟨V.heap.size, 0, none⟩) 1 1 [⟨0, none, 0, 0, [], true, cm⟩] (by rfl) (by exact Ps.newc [⟨0, none, 0, 0, [], true, cm⟩] (by intro x hx; rw [List.mem_singleton.1 hx]; exact ⟨Sl.nil, (by decide : (Lit.int .i64 0).wf = true), HM.out.1⟩) (by unfold maxLen; simp) rfl rfl rfl) 4 (by omega) (by omega) (by have := HBX.out.size; simp; omega) ?_; intro a9 c9 w9 hown9 hb9 hgrow9 hnil9)
    | fail)
  have HB9 : Hid (Below W0.heap.size W0 w9) := Lib.hid ((HBX.out.alloc HBX.out.size _).trans hb9)
  have HOWN : Hid (MadeP w0 w9 W0.heap.size a9 4 c9 (outs3 ++ [⟨0, none, 0, 0, [], true, cm⟩])) := Lib.hid (by
    have h := HBP.out.push ((Below.refl _ V).alloc (Nat.le_refl _) _) (fun x hx => by rw [List.mem_singleton.1 hx]; exact Pw.New.none (by decide) HM.out.1.1 HM.out.1.2) (List.pairwise_singleton _ _) (by rw [HBP.out.made.len]; rfl) hown9 hb9 hgrow9
    exact ⟨h.made.own, fun x hx => (h.new x hx).1.ok, h.made.len, HW00.out.trans (HB9.out.mono HW00.out.size)⟩)
  have HN9 := Lib.hid hnil9
  obtain ⟨outs9, ho9⟩ : ∃ l, l = outs3 ++ [(⟨0, none, 0, 0, [], true, cm⟩ : Pw)] := ⟨_, rfl⟩
  have HST9 : Hid (stps outs9 ++ Stp.ruled (zs.drop i) (ruls xs) = Stp.here (Cw.c ⟨cm, cl, co, ct, ra, rn, rcap, xs⟩) (zs.drop i)) := Lib.hid (by
    rw [ho9, stps_app, HST.out]; rfl)
  rw [← ho9] at HOWN
  clear hown9 hb9 hgrow9 hnil9 ho9 k0 k1 k2 k3 k4 HBX HBP HST
  go_loopw [7, 8, 9, 10] (fun ov kv rv nv wr => ∃ (k m c : Nat) (a : Option Addr) (outs : List Pw), ov = .slice a m c ∧ kv = .int .i64 (k : Int) ∧ k ≤ rn ∧ m ≤ 4 + k ∧ Hid (MadeP w0 wr W0.heap.size a m c outs) ∧ Hid (a = none → c = 0) ∧ Hid (stps outs = stps outs9 ++ Stp.ruled (zs.drop i) ((ruls xs).take k)) ∧ Hid (Below W0.heap.size W0 wr)) (fun _ kv _ _ _ => rn - (intOf kv).toNat)
  case atStart => exact ⟨0, 4, c9, a9, _, rfl, rfl, Nat.zero_le _, by omega, HOWN.out, HN9.out, by show _ = _; simp [Stp.ruled], HB9.out⟩
  case round =>
    obtain ⟨k, m, c, a, outs, rfl, rfl, hk1, hm1', HO, HN, HT, HBR⟩ := hrel
    obtain ⟨k0, k1, k2, k3, hrl⟩ := HKP.out wr HBR.out
    clear k0 k1 k2 k3
    have HBX : Hid (Below w0.heap.size w0 wr) := HO.out.bel
    by_cases hlt : k < rn
    · obtain ⟨rb, ro, la, ln, lc, L, ya, yn, yc, R, C, rfl, hrb, e1, e2, e3, hsL, hsR, hC0, hC9, hg⟩ := (HRS.out.below HBX.out (Nat.le_refl _)).one k hlt
      have hat : (ruls xs).getD k Rul.no = ⟨L, R, C⟩ := by rw [ruls_at, hg]; rfl
      have hkx : k < (ruls xs).length := by rw [ruls_length, HLX.out]; exact hlt
      have hln8 : ln ≤ 8 := by
        rw [← hsL.1]
        exact H8.out ⟨L, R, C⟩ (by rw [← hat, List.getD_eq_getElem?_getD, List.getElem?_eq_getElem hkx, Option.getD_some]; exact List.getElem_mem _)
      have HSL := Lib.hid hsL
      have HAT := Lib.hid hat
      have hli : (k : Int) < (rn : Int) := by omega
      have HQr : Hid (Sl .i64 wr (some ⟨qb, qo, none⟩) qn qc zs) := HQ.out.below HBX.out (Nat.le_refl _)
      have hnx := Stp.ruled_take (rest := zs.drop i) hkx
      rw [HAT.out] at hnx
      have HNX := Lib.hid hnx
      have hgr := HRS.out.good k
      rw [hg] at hgr
      have HGN : Hid ((⟨(ln : Int), ya, yn, yc, R, false, C⟩ : Pw).Good w0) := Lib.hid ⟨hgr.2.1, WalkArith.wf_i64 (n := (ln : Int)) ⟨by omega, by omega⟩, hC0, hC9⟩
      clear hnx hgr hg hat hsL hsR
      go_wp2
      obtain ⟨W2, hW2⟩ : ∃ W2, W2 = wr.alloc (.cells #[.slice la ln lc, .slice ya yn yc, .int .u64 C] 41) := ⟨_, rfl⟩
      have HA2 : Hid (Below wr.heap.size wr W2) := by rw [hW2]; exact (Below.refl _ wr).alloc (Nat.le_refl _) _
      have HC2 : Hid (W2.cell? ⟨wr.heap.size, 0, none⟩ = some (.slice la ln lc) ∧ W2.cell? ⟨wr.heap.size, 1, none⟩ = some (.slice ya yn yc) ∧ W2.cell? ⟨wr.heap.size, 2, none⟩ = some (.int .u64 C)) := by
        rw [hW2]
        exact ⟨by rw [World.cell?_alloc_mark]; rfl, by rw [World.cell?_alloc_mark]; rfl, by rw [World.cell?_alloc_mark]; rfl⟩
      rw [← hW2]
      clear hW2
      have HO2 : Hid (∀ q, MadeP w0 (W2.drewN q) W0.heap.size a m c outs ∧ Below W0.heap.size W0 (W2.drewN q)) := Lib.hid fun q =>
        ⟨(HO.out.below HA2.out).drawn ⟨q, rfl⟩, below_drawn (HBR.out.trans (HA2.out.mono HBR.out.size)) ⟨q, rfl⟩⟩
      by_cases hge : i + ln ≤ qn
      · have hle : (i : Int) + (ln : Int) ≤ (qn : Int) := by omega
        have hle2 : decide ((i : Int) + (ln : Int) ≤ (qn : Int)) = true := decide_eq_true hle
        have HPC : Hid (∀ W, Sl .i64 W (some ⟨qb, qo, none⟩) qn qc zs → Sl .i64 W (some ⟨qb, qo + i, none⟩) ln (qc - i) ((zs.drop i).take ln)) := Lib.hid fun W h => h.piece i ln (by omega)
        have hc20 := HC2.out.1
        have hk1 : (0 : Int) ≤ (i : Int) := by omega
        have hk2 : (i : Int) ≤ (i : Int) + (ln : Int) := by omega
        have hk3 : (i : Int) + (ln : Int) ≤ (qc : Int) := by omega
        have hk4 : (i : Int) ≤ (qc : Int) := by omega
        have hk5 : i ≤ qc := by omega
        have hk6 : (i : Int) + (ln : Int) - (i : Int) = (ln : Int) := by omega
        have hne1 : ¬ qc = i := by omega
        have hne2 : ¬ i = qc := by omega
        have hk7 : (qc : Int) - (i : Int) = ((qc - i : Nat) : Int) := by omega
        by_cases hs : (zs.drop i).take ln = L
        · have HD : Hid (decide ((zs.drop i).take ln = L) = true) := Lib.hid (decide_eq_true hs)
          have HLL : Hid (L.length = ln) := HSL.out.1
          have HYS : Hid (Stp.stands (zs.drop i) ⟨L, R, C⟩ = true) := by
            unfold Stp.stands
            rw [show (⟨L, R, C⟩ : Rul).L.length = ln from HSL.out.1]
            exact HD.out
          clear hs
          go_quiet (exact Calls.quiet_of (same_is _ la ln ln (qc - i) lc ((zs.drop i).take ln) L true _ (HPC.out _ ((HQr.out.below HA2.out (Nat.le_refl _)).drewN _)) ((HSL.out.below HA2.out (Nat.le_refl _)).drewN _) HD.out))
          generalize hW3 : W2.drewN nq = W3
          have HO3 : Hid (MadeP w0 W3 W0.heap.size a m c outs ∧ Below W0.heap.size W0 W3) := by rw [← hW3]; exact HO2.out _
          have HC3 : Hid (W3.cell? ⟨wr.heap.size, 1, none⟩ = some (.slice ya yn yc) ∧ W3.cell? ⟨wr.heap.size, 2, none⟩ = some (.int .u64 C)) := by rw [← hW3]; exact HC2.out.2
          have HG3 : Hid ((⟨(ln : Int), ya, yn, yc, R, false, C⟩ : Pw).Good W3) := HGN.out.below HO3.out.1.bel (Nat.le_refl _)
          clear hW3 hc20
          have hc31 := HC3.out.1
          have hc32 := HC3.out.2
          go_wp2_with (first
            | (at_builtin; refine append_steps (by rfl) (.tmp 101) (.tmp 108) (by rfl) W0.heap.size _ m outs (by rfl) (by exact (HO3.out.1.below ((Below.refl _ W3).alloc (Nat.le_refl _) _)).own) (some ⟨W3.heap.size, 0, none⟩) 1 1 [⟨(ln : Int), ya, yn, yc, R, false, C⟩] (by rfl) (by exact Ps.newc [⟨(ln : Int), ya, yn, yc, R, false, C⟩] (by intro x hx; rw [List.mem_singleton.1 hx]; exact HG3.out) (by unfold maxLen; simp) rfl rfl rfl) (m + 1) (by omega) (by omega) (by have := HO3.out.2.size; simp; omega) ?_; intro a6 c6 w6 hown6 hb6 hgrow6 hnil6)
            | fail)
          have HO6 : Hid (MadeP w0 w6 W0.heap.size a6 (m + 1) c6 (outs ++ [⟨(ln : Int), ya, yn, yc, R, false, C⟩])) := Lib.hid ((HO3.out.1.below ((Below.refl _ W3).alloc (Nat.le_refl _) _)).push HW00.out.size (fun x hx => by rw [List.mem_singleton.1 hx]; exact .inl HGN.out) (by rw [HO3.out.1.len]; rfl) hown6 hb6 hgrow6)
          have HB6 : Hid (Below W0.heap.size W0 w6) := Lib.hid ((HO3.out.2.alloc HO3.out.2.size _).trans hb6)
          have HN6 := Lib.hid hnil6
          clear hown6 hb6 hgrow6 hnil6 hc31 hc32
          go_wp2
          go_roundw
          case rel => exact ⟨k + 1, m + 1, c6, a6, _, by go_num, by go_num, by omega, by omega, HO6.out, HN6.out, (by show _ = _; rw [HNX.out, HYS.out, stps_app, HT.out, List.append_assoc]; simp [stps, Pw.s, Stp.step, HLL.out]), HB6.out⟩
          case measure => simp [intOf]; omega
        · have HD : Hid (decide ((zs.drop i).take ln = L) = false) := Lib.hid (decide_eq_false hs)
          have HNS : Hid (Stp.stands (zs.drop i) ⟨L, R, C⟩ = false) := by
            unfold Stp.stands
            rw [show (⟨L, R, C⟩ : Rul).L.length = ln from HSL.out.1]
            exact HD.out
          clear hs
          go_quiet (exact Calls.quiet_of (same_is _ la ln ln (qc - i) lc ((zs.drop i).take ln) L false _ (HPC.out _ ((HQr.out.below HA2.out (Nat.le_refl _)).drewN _)) ((HSL.out.below HA2.out (Nat.le_refl _)).drewN _) HD.out))
          go_wp2
          go_roundw
          case rel => exact ⟨k + 1, m, c, a, outs, rfl, by go_num, by omega, by omega, (HO2.out _).1, HN.out, (by show _ = _; rw [HNX.out, HNS.out, HT.out]; simp), (HO2.out _).2⟩
          case measure => simp [intOf]; omega
      · have HNS : Hid (Stp.stands (zs.drop i) ⟨L, R, C⟩ = false) := Stp.stands_no (by rw [List.length_drop, HQ.out.1]; show qn - i < L.length; rw [HSL.out.1]; omega)
        have hle : ¬ (i : Int) + (ln : Int) ≤ (qn : Int) := by omega
        have hle2 : decide ((i : Int) + (ln : Int) ≤ (qn : Int)) = false := decide_eq_false hle
        go_quiet (fail)
        go_wp2
        go_roundw
        case rel => exact ⟨k + 1, m, c, a, outs, rfl, by go_num, by omega, by omega, (HO2.out _).1, HN.out, (by show _ = _; rw [HNX.out, HNS.out, HT.out]; simp), (HO2.out _).2⟩
        case measure => simp [intOf]; omega
    · obtain rfl : k = rn := by omega
      go_wp2
      go_ret
      exact ⟨a, m, c, outs, rfl, HO.out.lower17 HW.out.size, by rw [HT.out, ← HST9.out, List.take_of_length_le (by rw [ruls_length, HLX.out]; exact Nat.le_refl _)], HN.out, HW.out.trans (HBR.out.mono HW.out.size)⟩

theorem rat17_turn (c : Cw) (qa : Option Addr) (qn qc : Nat) (zs : List Int) (i : Nat) (w0 w : World) (hb0 : Below w0.heap.size w0 w) (hc : c.Good w0) (hq : Sl .i64 w0 qa qn qc zs) (hq20 : qn ≤ 20) (hk : c.n ≤ 200) (h8 : ∀ x ∈ ruls c.xs, x.L.length ≤ 8) (hi : i + 2 ≤ qn) (he : (zs.drop i).getD 0 0 ≠ (zs.drop i).getD 1 0) :
    Calls Try.prog 21 #[c.v, .slice qa qn qc, .int .i64 (i : Int)] w fun e w' => StepsIs w0 w w' e (Stp.here c.c (zs.drop i)) := by
  have hmx : Try.prog.follows .mixedOrders = true := by kernel_rfl
  obtain ⟨cm, cl, co, ct, ra, rn, rcap, xs⟩ := c
  have hbs := hc.2
  simp only [Cw.base, List.mem_cons, List.not_mem_nil, or_false, forall_eq_or_imp, forall_eq] at hbs
  obtain ⟨⟨hm0, hm1⟩, ⟨hl0, hl1⟩, ⟨ho0, ho1⟩, ⟨ht0, ht1⟩⟩ := hbs
  have HM : Hid ((0 ≤ cm ∧ cm < 18446744073709551616) ∧ (0 ≤ cl ∧ cl < 18446744073709551616) ∧ (0 ≤ co ∧ co < 18446744073709551616) ∧ 0 ≤ ct ∧ ct < 18446744073709551616) := Lib.hid ⟨⟨hm0, hm1⟩, ⟨hl0, hl1⟩, ⟨ho0, ho1⟩, ht0, ht1⟩
  have HRS : Hid (Rs w0 ra rn rcap xs) := hc.1
  have HLX : Hid (xs.length = rn) := HRS.out.1
  have hrc := HRS.out.2.1
  have hrm := HRS.out.2.2.1
  unfold maxLen at hrm
  have HQ := Lib.hid hq
  have HLEN : Hid (zs.length = qn) := HQ.out.1
  have hqc := hq.2.1
  have hqm := hq.2.2.1
  unfold maxLen at hqm
  have H8 := Lib.hid h8
  have HB0 := Lib.hid hb0
  dsimp only at hk
  have HEE := Lib.hid he
  clear he
  have hi20 : i ≤ 20 := by omega
  have hiq : i ≤ qn := by omega
  have hin : (i : Int) < (qn : Int) := by omega
  have hi0 : (0 : Int) ≤ (i : Int) := by omega
  have HI := Lib.hid hi
  have hilt : i < qn := by omega
  have hin1 : (i : Int) + 1 < (qn : Int) := by omega
  have hin2 : decide ((i : Int) + 1 < (qn : Int)) = true := decide_eq_true hin1
  have hilt1 : i + 1 < qn := by omega
  clear hc hq h8 hb0 hm0 hm1 hl0 hl1 ho0 ho1 ht0 ht1 hi
  show Calls _ _ #[.agg #[.int .u64 cm, .int .u64 cl, .int .u64 co, .int .u64 ct, .slice ra rn rcap], .slice qa qn qc, .int .i64 (i : Int)] w _
  go_enter Try.func21, Try.ntmps21
  go_wp2
  obtain ⟨W0, hW0⟩ : ∃ W0, W0 = w.alloc (.cells #[.int .u64 cm, .int .u64 cl, .int .u64 co, .int .u64 ct, .slice ra rn rcap] 25) := ⟨_, rfl⟩
  have HKP : Hid (∀ W, Below W0.heap.size W0 W → W.cell? ⟨w.heap.size, 0, none⟩ = some (.int .u64 cm) ∧ W.cell? ⟨w.heap.size, 1, none⟩ = some (.int .u64 cl) ∧ W.cell? ⟨w.heap.size, 2, none⟩ = some (.int .u64 co) ∧ W.cell? ⟨w.heap.size, 3, none⟩ = some (.int .u64 ct) ∧ W.cell? ⟨w.heap.size, 4, none⟩ = some (.slice ra rn rcap)) := Lib.hid fun W hb => by
    have h := (hb.block w.heap.size (by rw [hW0]; simp)).trans (show W0.heap[w.heap.size]? = some (.cells #[.int .u64 cm, .int .u64 cl, .int .u64 co, .int .u64 ct, .slice ra rn rcap] 25 (0, 0)) by rw [hW0]; exact heap_alloc_new w _)
    refine ⟨?_, ?_, ?_, ?_, ?_⟩ <;> (rw [cell_of_row W _ _ _ _ _ h]; rfl)
  have HW : Hid (Below w.heap.size w W0) := Lib.hid (by rw [hW0]; exact (Below.refl _ w).alloc (Nat.le_refl _) _)
  have HW00 : Hid (Below w0.heap.size w0 W0) := Lib.hid (HB0.out.trans (HW.out.mono HB0.out.size))
  have HBP : Hid (BaseP W0 W0 none 0 0 []) := Lib.hid (BaseP.start W0 W0 (Below.refl _ _))
  have HBA : Hid (Below W0.heap.size W0 W0.drew) := Lib.hid (below_drawn (Below.refl _ _) ⟨1, rfl⟩)
  obtain ⟨qb, qo, rfl, hqb, hqcl⟩ := (HQ.out.below HW00.out (Nat.le_refl _)).at (by omega)
  obtain ⟨z0, hz0⟩ : ∃ z, z = zs.getD i 0 := ⟨_, rfl⟩
  have hq0 := hqcl i (by omega)
  rw [← hz0] at hq0
  obtain ⟨z1, hz1⟩ : ∃ z, z = zs.getD (i + 1) 0 := ⟨_, rfl⟩
  have hq1 := hqcl (i + 1) (by omega)
  rw [← hz1] at hq1
  have hwf : ∀ k, k < qn → (Lit.int .i64 (zs.getD k 0)).wf = true := fun k hk => HQ.out.2.2.2.1 _ (by
    rw [List.getD_eq_getElem?_getD, List.getElem?_eq_getElem (by rw [HQ.out.1]; exact hk), Option.getD_some]; exact List.getElem_mem _)
  have HZW : Hid ((Lit.int .i64 z0).wf = true ∧ (Lit.int .i64 z1).wf = true) := Lib.hid ⟨by rw [hz0]; exact hwf i (by omega), by rw [hz1]; exact hwf (i + 1) (by omega)⟩
  have HKQ : Hid (∀ W, Below W0.heap.size W0 W → W.cell? ⟨w.heap.size, 0, none⟩ = some (.int .u64 cm) ∧ W.cell? ⟨w.heap.size, 1, none⟩ = some (.int .u64 cl) ∧ W.cell? ⟨w.heap.size, 2, none⟩ = some (.int .u64 co) ∧ W.cell? ⟨w.heap.size, 3, none⟩ = some (.int .u64 ct) ∧ W.cell? ⟨w.heap.size, 4, none⟩ = some (.slice ra rn rcap) ∧ W.cell? ⟨qb, qo + i, none⟩ = some (.int .i64 z0) ∧ W.cell? ⟨qb, qo + (i + 1), none⟩ = some (.int .i64 z1)) := Lib.hid fun W hb => by
    obtain ⟨k0, k1, k2, k3, k4⟩ := HKP.out W hb
    exact ⟨k0, k1, k2, k3, k4, (hb.cell (p := ⟨qb, qo + i, none⟩) hqb).trans hq0, (hb.cell (p := ⟨qb, qo + (i + 1), none⟩) hqb).trans hq1⟩
  have HE0 : Hid (z0 = (zs.drop i).getD 0 0) := Lib.hid (by rw [drop_at]; exact hz0)
  have HE1 : Hid (z1 = (zs.drop i).getD 1 0) := Lib.hid (by rw [drop_at]; exact hz1)
  have HDL : Hid ((zs.drop i).length = qn - i) := Lib.hid (by rw [List.length_drop, HLEN.out])
  rw [← hW0]
  clear hW0 hqcl hq0 hwf hz0 hq1 hz1
  go_wp2
  refine wp_region_held_drew (S := (fun W => W.cell? ⟨w.heap.size, 0, none⟩ = some (.int .u64 cm) ∧ W.cell? ⟨w.heap.size, 1, none⟩ = some (.int .u64 cl) ∧ W.cell? ⟨w.heap.size, 2, none⟩ = some (.int .u64 co) ∧ W.cell? ⟨w.heap.size, 3, none⟩ = some (.int .u64 ct) ∧ W.cell? ⟨w.heap.size, 4, none⟩ = some (.slice ra rn rcap) ∧ W.cell? ⟨qb, qo + i, none⟩ = some (.int .i64 z0) ∧ W.cell? ⟨qb, qo + (i + 1), none⟩ = some (.int .i64 z1))) (by kernel_rfl) (by first | (exact HKQ.out _ (by first | exact HBF.out | exact HBE.out _ | exact HBB.out | exact HBA.out)) | ((try dsimp only); exact HKQ.out _ (by first | exact HBF.out | exact HBE.out _ | exact HBB.out | exact HBA.out))) (fun hHeld => ?_)
  refine wpAnyH_take (i := 0) (v := ?vk1) rfl (by kernel_rfl) (by kernel_rfl) (by kernel_rfl) (fun _ _ _ h => h) (Or.inl ⟨by rfl, ?hk1⟩) (by assumption) ?rk1
  case hk1 => intro w hSw; (try dsimp only at hSw); go_simp; try with_reducible rfl
  simp only [Act.put, List.getElem_toArray, List.getElem_cons_succ, List.getElem_cons_zero, List.setIfInBounds_toArray, List.set_cons_succ, List.set_cons_zero]
  refine wpAnyH_take (i := 1) (v := ?vk4) rfl (by kernel_rfl) (by kernel_rfl) (by kernel_rfl) (fun _ _ _ h => h) (Or.inl ⟨by rfl, ?hk4⟩) (by assumption) ?rk4
  case hk4 => intro w hSw; (try dsimp only at hSw); go_simp; try with_reducible rfl
  simp only [Act.put, List.getElem_toArray, List.getElem_cons_succ, List.getElem_cons_zero, List.setIfInBounds_toArray, List.set_cons_succ, List.set_cons_zero]
  refine wpAnyH_take (i := 2) (v := ?vk7) rfl (by kernel_rfl) (by kernel_rfl) (by kernel_rfl) (fun _ _ _ h => h) (Or.inl ⟨by rfl, ?hk7⟩) (by assumption) ?rk7
  case hk7 => intro w hSw; (try dsimp only at hSw); go_simp; try with_reducible rfl
  simp only [Act.put, List.getElem_toArray, List.getElem_cons_succ, List.getElem_cons_zero, List.setIfInBounds_toArray, List.set_cons_succ, List.set_cons_zero]
  refine wpAnyH_take (i := 3) (v := ?vk10) rfl (by kernel_rfl) (by kernel_rfl) (by kernel_rfl) (fun _ _ _ h => h) (Or.inl ⟨by rfl, ?hk10⟩) (by assumption) ?rk10
  case hk10 => intro w hSw; (try dsimp only at hSw); go_simp; try with_reducible rfl
  simp only [Act.put, List.getElem_toArray, List.getElem_cons_succ, List.getElem_cons_zero, List.setIfInBounds_toArray, List.set_cons_succ, List.set_cons_zero]
  refine wpAnyH_take (i := 4) (v := ?vk13) rfl (by kernel_rfl) (by kernel_rfl) (by kernel_rfl) (fun _ _ _ h => h) (Or.inl ⟨by rfl, ?hk13⟩) (by assumption) ?rk13
  case hk13 => intro w hSw; (try dsimp only at hSw); go_simp; try with_reducible rfl
  simp only [Act.put, List.getElem_toArray, List.getElem_cons_succ, List.getElem_cons_zero, List.setIfInBounds_toArray, List.set_cons_succ, List.set_cons_zero]
  refine wpAnyH_take (i := 7) (v := ?vk16) rfl (by kernel_rfl) (by kernel_rfl) (by kernel_rfl) (fun _ _ _ h => h) (Or.inl ⟨by rfl, ?hk16⟩) (by assumption) ?rk16
  case hk16 => intro w hSw; (try dsimp only at hSw); go_simp; try with_reducible rfl
  simp only [Act.put, List.getElem_toArray, List.getElem_cons_succ, List.getElem_cons_zero, List.setIfInBounds_toArray, List.set_cons_succ, List.set_cons_zero]
  refine wpAnyH_take (i := 8) (v := ?vk19) rfl (by kernel_rfl) (by kernel_rfl) (by kernel_rfl) (fun _ _ _ h => h) (Or.inl ⟨by rfl, ?hk19⟩) (by assumption) ?rk19
  case hk19 => intro w hSw; (try dsimp only at hSw); go_simp; try with_reducible rfl
  simp only [Act.put, List.getElem_toArray, List.getElem_cons_succ, List.getElem_cons_zero, List.setIfInBounds_toArray, List.set_cons_succ, List.set_cons_zero]
  refine wpAnyH_take (i := 9) (v := ?vk22) rfl (by kernel_rfl) (by kernel_rfl) (by kernel_rfl) (fun _ _ _ h => h) (Or.inl ⟨by rfl, ?hk22⟩) (by assumption) ?rk22
  case hk22 => intro w hSw; (try dsimp only at hSw); go_simp; try with_reducible rfl
  simp only [Act.put, List.getElem_toArray, List.getElem_cons_succ, List.getElem_cons_zero, List.setIfInBounds_toArray, List.set_cons_succ, List.set_cons_zero]
  refine wpAnyH_take (i := 10) (v := ?vk25) rfl (by kernel_rfl) (by kernel_rfl) (by kernel_rfl) (fun _ _ _ h => h) (Or.inl ⟨by rfl, ?hk25⟩) (by assumption) ?rk25
  case hk25 => intro w hSw; (try dsimp only at hSw); go_simp; try with_reducible rfl
  simp only [Act.put, List.getElem_toArray, List.getElem_cons_succ, List.getElem_cons_zero, List.setIfInBounds_toArray, List.set_cons_succ, List.set_cons_zero]
  refine wpAnyH_take (i := 11) (v := ?vk28) rfl (by kernel_rfl) (by kernel_rfl) (by kernel_rfl) (fun _ _ _ h => h) (Or.inl ⟨by rfl, ?hk28⟩) (by assumption) ?rk28
  case hk28 => intro w hSw; (try dsimp only at hSw); go_simp; try with_reducible rfl
  simp only [Act.put, List.getElem_toArray, List.getElem_cons_succ, List.getElem_cons_zero, List.setIfInBounds_toArray, List.set_cons_succ, List.set_cons_zero]
  refine wpAnyH_take (i := 12) (v := ?vk31) rfl (by kernel_rfl) (by kernel_rfl) (by kernel_rfl) (fun _ _ _ h => h) (Or.inl ⟨by rfl, ?hk31⟩) (by assumption) ?rk31
  case hk31 => intro w hSw; (try dsimp only at hSw); go_simp; try with_reducible rfl
  simp only [Act.put, List.getElem_toArray, List.getElem_cons_succ, List.getElem_cons_zero, List.setIfInBounds_toArray, List.set_cons_succ, List.set_cons_zero]
  refine wpAnyH_ready (rs := [5]) (by kernel_rfl) (by simp) ?_
  refine AllReadyH.cons rfl (fun K hK => ?_) AllReadyH.nil
  go_simp
  have HBB : Hid (Below W0.heap.size W0 (W0.drew.alloc (.cells #[.int .i64 z0] 3))) := Lib.hid (HBA.out.alloc HBA.out.size _)
  have HLIT : Hid (∀ x ∈ ([⟨1, some ⟨W0.drew.heap.size, 0, none⟩, 1, 1, [z0], false, 0⟩, ⟨1, none, 0, 0, [], true, co⟩, ⟨1, none, 0, 0, [], false, cl⟩] : List Pw), x.New W0 (W0.drew.alloc (.cells #[.int .i64 z0] 3))) := Lib.hid (by
    intro x hx
    simp only [List.mem_cons, List.not_mem_nil, or_false] at hx
    rcases hx with rfl | rfl | rfl
    · exact Pw.New.new (Sl.newI [z0] (by intro y hy; rw [List.mem_singleton.1 hy]; exact HZW.out.1) (by unfold maxLen; simp) rfl rfl rfl) (heap_alloc_new W0.drew _) (Nat.le_refl _) (by decide) (by decide) (by decide)
    · exact Pw.New.none (by decide) HM.out.2.2.1.1 HM.out.2.2.1.2
    · exact Pw.New.none (by decide) HM.out.2.1.1 HM.out.2.1.2)
  have HLV : Hid (Below W0.heap.size W0 (W0.drew.alloc (.cells #[.int .i64 z0] 3))) := HBB
  refine hK.out _ _ (by first | (exact HKQ.out _ (by first | exact HBF.out | exact HBE.out _ | exact HBB.out | exact HBA.out)) | ((try dsimp only); exact HKQ.out _ (by first | exact HBF.out | exact HBE.out _ | exact HBB.out | exact HBA.out))) (fun hHeld => ?_)
  clear hK K
  try simp only [Act.put, List.getElem_toArray, List.getElem_cons_succ, List.getElem_cons_zero, List.setIfInBounds_toArray, List.set_cons_succ, List.set_cons_zero]
  refine wpAnyH_take (i := 6) (v := ?vk49) rfl (by kernel_rfl) (by kernel_rfl) (by kernel_rfl) (fun _ _ _ h => h) (Or.inl ⟨by rfl, ?hk49⟩) (by assumption) ?rk49
  case hk49 => intro w hSw; (try dsimp only at hSw); go_simp; try with_reducible rfl
  simp only [Act.put, List.getElem_toArray, List.getElem_cons_succ, List.getElem_cons_zero, List.setIfInBounds_toArray, List.set_cons_succ, List.set_cons_zero]
  refine wpAnyH_ready (rs := [13]) (by kernel_rfl) (by simp) ?_
  refine AllReadyH.cons rfl (fun K hK => ?_) AllReadyH.nil
  go_simp
  have HBE : Hid (∀ o, Below W0.heap.size W0 ((W0.drew.alloc (.cells #[.int .i64 z0] 3)).alloc o)) := Lib.hid fun o => HBB.out.alloc HBB.out.size _
  refine hK.out _ _ (by first | (exact HKQ.out _ (by first | exact HBF.out | exact HBE.out _ | exact HBB.out | exact HBA.out)) | ((try dsimp only); exact HKQ.out _ (by first | exact HBF.out | exact HBE.out _ | exact HBB.out | exact HBA.out))) (fun hHeld => ?_)
  clear hK K
  try simp only [Act.put, List.getElem_toArray, List.getElem_cons_succ, List.getElem_cons_zero, List.setIfInBounds_toArray, List.set_cons_succ, List.set_cons_zero]
  refine wpAnyH_ready (rs := [14]) (by kernel_rfl) (by simp) ?_
  refine AllReadyH.cons rfl (fun K hK => ?_) AllReadyH.nil
  refine step_append_steps (by rfl) (.tmp 15) (.tmp 28) (by rfl) W0.heap.size _ 0 [] (by rfl) (by exact (HBP.out.below (HLV.out.alloc HLV.out.size _)).made.own) (some ⟨W0.heap.size + 1, 0, none⟩) 3 3 ([⟨1, some ⟨W0.drew.heap.size, 0, none⟩, 1, 1, [z0], false, 0⟩, ⟨1, none, 0, 0, [], true, co⟩, ⟨1, none, 0, 0, [], false, cl⟩] : List Pw) (by rfl) (by exact Ps.newc ([⟨1, some ⟨W0.drew.heap.size, 0, none⟩, 1, 1, [z0], false, 0⟩, ⟨1, none, 0, 0, [], true, co⟩, ⟨1, none, 0, 0, [], false, cl⟩] : List Pw) (fun x hx => (HLIT.out x hx).1.1) (by unfold maxLen; simp) (by rw [World.size_alloc]) rfl rfl) 3 (by omega) (by omega) (HBE.out _).size (Below.refl _ _) ?_
  intro a5 c5 w5 hown5 hb5 hgrow5 hnil5
  have HBF : Hid (Below W0.heap.size W0 w5) := Lib.hid ((HBE.out _).trans hb5)
  have HBQ : Hid (BaseP W0 w5 a5 3 c5 ([] ++ ([⟨1, some ⟨W0.drew.heap.size, 0, none⟩, 1, 1, [z0], false, 0⟩, ⟨1, none, 0, 0, [], true, co⟩, ⟨1, none, 0, 0, [], false, cl⟩] : List Pw))) := Lib.hid (HBP.out.push (HLV.out.alloc HLV.out.size _) (fun x hx => (HLIT.out x hx).below ((Below.refl _ (W0.drew.alloc (.cells #[.int .i64 z0] 3))).alloc (Nat.le_refl _) _)) (by simp [Pw.blk]) (by rw [HBP.out.made.len]; rfl) hown5 hb5 hgrow5)
  clear hown5 hb5 hgrow5 hnil5
  refine hK.out _ _ (by first | (exact HKQ.out _ (by first | exact HBF.out | exact HBE.out _ | exact HBB.out | exact HBA.out)) | ((try dsimp only); exact HKQ.out _ (by first | exact HBF.out | exact HBE.out _ | exact HBB.out | exact HBA.out))) (fun hHeld => ?_)
  clear hK K
  try simp only [Act.put, List.getElem_toArray, List.getElem_cons_succ, List.getElem_cons_zero, List.setIfInBounds_toArray, List.set_cons_succ, List.set_cons_zero]
  refine wpAnyH_take (i := 15) (v := ?vk69) rfl (by kernel_rfl) (by kernel_rfl) (by kernel_rfl) (fun _ _ _ h => h) (Or.inl ⟨by rfl, ?hk69⟩) (by assumption) ?rk69
  case hk69 => intro w hSw; (try dsimp only at hSw); go_simp; try with_reducible rfl
  simp only [Act.put, List.getElem_toArray, List.getElem_cons_succ, List.getElem_cons_zero, List.setIfInBounds_toArray, List.set_cons_succ, List.set_cons_zero]
  refine wpAnyH_done (by kernel_rfl) ?_ _
  have HST3 : Hid (stps ([] ++ ([⟨1, some ⟨W0.drew.heap.size, 0, none⟩, 1, 1, [z0], false, 0⟩, ⟨1, none, 0, 0, [], true, co⟩, ⟨1, none, 0, 0, [], false, cl⟩] : List Pw)) = [⟨1, [z0], false, 0⟩, ⟨1, [], true, co⟩, ⟨1, [], false, cl⟩]) := Lib.hid rfl
  generalize ([] ++ ([⟨1, some ⟨W0.drew.heap.size, 0, none⟩, 1, 1, [z0], false, 0⟩, ⟨1, none, 0, 0, [], true, co⟩, ⟨1, none, 0, 0, [], false, cl⟩] : List Pw) : List Pw) = outs3 at HBQ HST3
  clear HBB HBE HLIT HLV HBP hHeld
  have HNE : Hid (z0 ≠ z1) := Lib.hid (by rw [HE0.out, HE1.out]; exact HEE.out)
  obtain ⟨k0, k1, k2, k3, k4, k5, k6⟩ := HKQ.out _ HBF.out
  have hzz : (z0 == z1) = false := by simpa using HNE.out
  have hzn : (z0 != z1) = true := by simpa using HNE.out
  have hzd : decide (z0 = z1) = false := decide_eq_false HNE.out
  clear HBA
  go_wp2
  go_quiet (fail)
  generalize hV0 : w5.drewN nq = V0
  have HBV : Hid (Below W0.heap.size W0 V0) := Lib.hid (by rw [← hV0]; exact below_drawn HBF.out ⟨_, rfl⟩)
  have HBP : Hid (BaseP W0 V0 a5 3 c5 outs3) := Lib.hid (by rw [← hV0]; exact HBQ.out.below (below_drawn (Below.refl _ _) ⟨_, rfl⟩))
  have HVD : Hid (Below V0.heap.size V0 V0.drew) := Lib.hid (below_drawn (Below.refl _ _) ⟨1, rfl⟩)
  have HBA : Hid (Below W0.heap.size W0 V0.drew) := Lib.hid (below_drawn HBV.out ⟨1, rfl⟩)
  have hwr : IntKind.i64.wrap ((i : Int) + 1) = (i : Int) + 1 := by rw [IntKind.wrap_i64]; omega
  have hwp : (0 : Int) ≤ (i : Int) + 1 := by omega
  have hwt : ((i : Int) + 1).toNat = i + 1 := by omega
  clear hV0 HBQ HBF k0 k1 k2 k3 k4 k5 k6
  go_wp2
  refine wp_region_held_drew (S := (fun W => W.cell? ⟨w.heap.size, 0, none⟩ = some (.int .u64 cm) ∧ W.cell? ⟨w.heap.size, 1, none⟩ = some (.int .u64 cl) ∧ W.cell? ⟨w.heap.size, 2, none⟩ = some (.int .u64 co) ∧ W.cell? ⟨w.heap.size, 3, none⟩ = some (.int .u64 ct) ∧ W.cell? ⟨w.heap.size, 4, none⟩ = some (.slice ra rn rcap) ∧ W.cell? ⟨qb, qo + i, none⟩ = some (.int .i64 z0) ∧ W.cell? ⟨qb, qo + (i + 1), none⟩ = some (.int .i64 z1))) (by kernel_rfl) (by first | (exact HKQ.out _ (by first | exact HBF.out | exact HBE.out _ | exact HBB.out | exact HBA.out)) | ((try dsimp only); exact HKQ.out _ (by first | exact HBF.out | exact HBE.out _ | exact HBB.out | exact HBA.out))) (fun hHeld => ?_)
  refine wpAnyH_take (i := 0) (v := ?vl1) rfl (by kernel_rfl) (by kernel_rfl) (by kernel_rfl) (fun _ _ _ h => h) (Or.inl ⟨by rfl, ?hl1⟩) (by assumption) ?rl1
  case hl1 => intro w hSw; (try dsimp only at hSw); go_simp; try with_reducible rfl
  simp only [Act.put, List.getElem_toArray, List.getElem_cons_succ, List.getElem_cons_zero, List.setIfInBounds_toArray, List.set_cons_succ, List.set_cons_zero]
  refine wpAnyH_take (i := 1) (v := ?vl4) rfl (by kernel_rfl) (by kernel_rfl) (by kernel_rfl) (fun _ _ _ h => h) (Or.inl ⟨by rfl, ?hl4⟩) (by assumption) ?rl4
  case hl4 => intro w hSw; (try dsimp only at hSw); go_simp; try with_reducible rfl
  simp only [Act.put, List.getElem_toArray, List.getElem_cons_succ, List.getElem_cons_zero, List.setIfInBounds_toArray, List.set_cons_succ, List.set_cons_zero]
  refine wpAnyH_take (i := 2) (v := ?vl7) rfl (by kernel_rfl) (by kernel_rfl) (by kernel_rfl) (fun _ _ _ h => h) (Or.inl ⟨by rfl, ?hl7⟩) (by assumption) ?rl7
  case hl7 => intro w hSw; (try dsimp only at hSw); go_simp; try with_reducible rfl
  simp only [Act.put, List.getElem_toArray, List.getElem_cons_succ, List.getElem_cons_zero, List.setIfInBounds_toArray, List.set_cons_succ, List.set_cons_zero]
  refine wpAnyH_take (i := 3) (v := ?vl10) rfl (by kernel_rfl) (by kernel_rfl) (by kernel_rfl) (fun _ _ _ h => h) (Or.inl ⟨by rfl, ?hl10⟩) (by assumption) ?rl10
  case hl10 => intro w hSw; (try dsimp only at hSw); go_simp; try with_reducible rfl
  simp only [Act.put, List.getElem_toArray, List.getElem_cons_succ, List.getElem_cons_zero, List.setIfInBounds_toArray, List.set_cons_succ, List.set_cons_zero]
  refine wpAnyH_take (i := 4) (v := ?vl13) rfl (by kernel_rfl) (by kernel_rfl) (by kernel_rfl) (fun _ _ _ h => h) (Or.inl ⟨by rfl, ?hl13⟩) (by assumption) ?rl13
  case hl13 => intro w hSw; (try dsimp only at hSw); go_simp; try with_reducible rfl
  simp only [Act.put, List.getElem_toArray, List.getElem_cons_succ, List.getElem_cons_zero, List.setIfInBounds_toArray, List.set_cons_succ, List.set_cons_zero]
  refine wpAnyH_take (i := 5) (v := ?vl16) rfl (by kernel_rfl) (by kernel_rfl) (by kernel_rfl) (fun _ _ _ h => h) (Or.inl ⟨by rfl, ?hl16⟩) (by assumption) ?rl16
  case hl16 => intro w hSw; (try dsimp only at hSw); go_simp; try with_reducible rfl
  simp only [Act.put, List.getElem_toArray, List.getElem_cons_succ, List.getElem_cons_zero, List.setIfInBounds_toArray, List.set_cons_succ, List.set_cons_zero]
  refine wpAnyH_take (i := 6) (v := ?vl19) rfl (by kernel_rfl) (by kernel_rfl) (by kernel_rfl) (fun _ _ _ h => h) (Or.inl ⟨by rfl, ?hl19⟩) (by assumption) ?rl19
  case hl19 => intro w hSw; (try dsimp only at hSw); go_simp; try with_reducible rfl
  simp only [Act.put, List.getElem_toArray, List.getElem_cons_succ, List.getElem_cons_zero, List.setIfInBounds_toArray, List.set_cons_succ, List.set_cons_zero]
  refine wpAnyH_take (i := 7) (v := ?vl22) rfl (by kernel_rfl) (by kernel_rfl) (by kernel_rfl) (fun _ _ _ h => h) (Or.inl ⟨by rfl, ?hl22⟩) (by assumption) ?rl22
  case hl22 => intro w hSw; (try dsimp only at hSw); go_simp; try with_reducible rfl
  simp only [Act.put, List.getElem_toArray, List.getElem_cons_succ, List.getElem_cons_zero, List.setIfInBounds_toArray, List.set_cons_succ, List.set_cons_zero]
  refine wpAnyH_take (i := 8) (v := ?vl25) rfl (by kernel_rfl) (by kernel_rfl) (by kernel_rfl) (fun _ _ _ h => h) (Or.inl ⟨by rfl, ?hl25⟩) (by assumption) ?rl25
  case hl25 => intro w hSw; (try dsimp only at hSw); go_simp; try with_reducible rfl
  simp only [Act.put, List.getElem_toArray, List.getElem_cons_succ, List.getElem_cons_zero, List.setIfInBounds_toArray, List.set_cons_succ, List.set_cons_zero]
  refine wpAnyH_take (i := 9) (v := ?vl28) rfl (by kernel_rfl) (by kernel_rfl) (by kernel_rfl) (fun _ _ _ h => h) (Or.inl ⟨by rfl, ?hl28⟩) (by assumption) ?rl28
  case hl28 => intro w hSw; (try dsimp only at hSw); go_simp; try with_reducible rfl
  simp only [Act.put, List.getElem_toArray, List.getElem_cons_succ, List.getElem_cons_zero, List.setIfInBounds_toArray, List.set_cons_succ, List.set_cons_zero]
  refine wpAnyH_take (i := 11) (v := ?vl31) rfl (by kernel_rfl) (by kernel_rfl) (by kernel_rfl) (fun _ _ _ h => h) (Or.inl ⟨by rfl, ?hl31⟩) (by assumption) ?rl31
  case hl31 => intro w hSw; (try dsimp only at hSw); go_simp; try with_reducible rfl
  simp only [Act.put, List.getElem_toArray, List.getElem_cons_succ, List.getElem_cons_zero, List.setIfInBounds_toArray, List.set_cons_succ, List.set_cons_zero]
  refine wpAnyH_take (i := 12) (v := ?vl34) rfl (by kernel_rfl) (by kernel_rfl) (by kernel_rfl) (fun _ _ _ h => h) (Or.inl ⟨by rfl, ?hl34⟩) (by assumption) ?rl34
  case hl34 => intro w hSw; (try dsimp only at hSw); go_simp; try with_reducible rfl
  simp only [Act.put, List.getElem_toArray, List.getElem_cons_succ, List.getElem_cons_zero, List.setIfInBounds_toArray, List.set_cons_succ, List.set_cons_zero]
  refine wpAnyH_ready (rs := [10]) (by kernel_rfl) (by simp) ?_
  refine AllReadyH.cons rfl (fun K hK => ?_) AllReadyH.nil
  go_simp
  have HBB : Hid (Below W0.heap.size W0 (V0.drew.alloc (.cells #[.int .i64 z1, .int .i64 z0] 3))) := Lib.hid (HBA.out.alloc HBA.out.size _)
  have HLIT : Hid (∀ x ∈ ([⟨2, some ⟨V0.drew.heap.size, 0, none⟩, 2, 2, [z1, z0], false, ct⟩] : List Pw), x.New V0 (V0.drew.alloc (.cells #[.int .i64 z1, .int .i64 z0] 3))) := Lib.hid (by
    intro x hx
    rw [List.mem_singleton.1 hx]
    exact Pw.New.new (Sl.newI [z1, z0] (by intro y hy; simp only [List.mem_cons, List.not_mem_nil, or_false] at hy; rcases hy with rfl | rfl; exact HZW.out.2; exact HZW.out.1) (by unfold maxLen; simp) rfl rfl rfl) (heap_alloc_new V0.drew _) (Nat.le_refl _) (by decide) HM.out.2.2.2.1 HM.out.2.2.2.2)
  have HLV : Hid (Below V0.heap.size V0 (V0.drew.alloc (.cells #[.int .i64 z1, .int .i64 z0] 3))) := Lib.hid (HVD.out.alloc HVD.out.size _)
  refine hK.out _ _ (by first | (exact HKQ.out _ (by first | exact HBF.out | exact HBE.out _ | exact HBB.out | exact HBA.out)) | ((try dsimp only); exact HKQ.out _ (by first | exact HBF.out | exact HBE.out _ | exact HBB.out | exact HBA.out))) (fun hHeld => ?_)
  clear hK K
  try simp only [Act.put, List.getElem_toArray, List.getElem_cons_succ, List.getElem_cons_zero, List.setIfInBounds_toArray, List.set_cons_succ, List.set_cons_zero]
  refine wpAnyH_take (i := 13) (v := ?vl49) rfl (by kernel_rfl) (by kernel_rfl) (by kernel_rfl) (fun _ _ _ h => h) (Or.inl ⟨by rfl, ?hl49⟩) (by assumption) ?rl49
  case hl49 => intro w hSw; (try dsimp only at hSw); go_simp; try with_reducible rfl
  simp only [Act.put, List.getElem_toArray, List.getElem_cons_succ, List.getElem_cons_zero, List.setIfInBounds_toArray, List.set_cons_succ, List.set_cons_zero]
  refine wpAnyH_ready (rs := [14]) (by kernel_rfl) (by simp) ?_
  refine AllReadyH.cons rfl (fun K hK => ?_) AllReadyH.nil
  go_simp
  have HBE : Hid (∀ o, Below W0.heap.size W0 ((V0.drew.alloc (.cells #[.int .i64 z1, .int .i64 z0] 3)).alloc o)) := Lib.hid fun o => HBB.out.alloc HBB.out.size _
  refine hK.out _ _ (by first | (exact HKQ.out _ (by first | exact HBF.out | exact HBE.out _ | exact HBB.out | exact HBA.out)) | ((try dsimp only); exact HKQ.out _ (by first | exact HBF.out | exact HBE.out _ | exact HBB.out | exact HBA.out))) (fun hHeld => ?_)
  clear hK K
  try simp only [Act.put, List.getElem_toArray, List.getElem_cons_succ, List.getElem_cons_zero, List.setIfInBounds_toArray, List.set_cons_succ, List.set_cons_zero]
  refine wpAnyH_ready (rs := [15]) (by kernel_rfl) (by simp) ?_
  refine AllReadyH.cons rfl (fun K hK => ?_) AllReadyH.nil
  refine step_append_steps (by rfl) (.tmp 47) (.tmp 61) (by rfl) W0.heap.size _ 3 outs3 (by rfl) (by exact (HBP.out.below (HLV.out.alloc HLV.out.size _)).made.own) (some ⟨V0.heap.size + 1, 0, none⟩) 1 1 ([⟨2, some ⟨V0.drew.heap.size, 0, none⟩, 2, 2, [z1, z0], false, ct⟩] : List Pw) (by rfl) (by exact Ps.newc ([⟨2, some ⟨V0.drew.heap.size, 0, none⟩, 2, 2, [z1, z0], false, ct⟩] : List Pw) (fun x hx => (HLIT.out x hx).1.1) (by unfold maxLen; simp) (by rw [World.size_alloc]) rfl rfl) 4 (by omega) (by omega) (HBE.out _).size (Below.refl _ _) ?_
  intro a5 c5 w5 hown5 hb5 hgrow5 hnil5
  have HBF : Hid (Below W0.heap.size W0 w5) := Lib.hid ((HBE.out _).trans hb5)
  have HBQ : Hid (BaseP W0 w5 a5 4 c5 (outs3 ++ ([⟨2, some ⟨V0.drew.heap.size, 0, none⟩, 2, 2, [z1, z0], false, ct⟩] : List Pw))) := Lib.hid (HBP.out.push (HLV.out.alloc HLV.out.size _) (fun x hx => (HLIT.out x hx).below ((Below.refl _ (V0.drew.alloc (.cells #[.int .i64 z1, .int .i64 z0] 3))).alloc (Nat.le_refl _) _)) (List.pairwise_singleton _ _) (by rw [HBP.out.made.len]; rfl) hown5 hb5 hgrow5)
  clear hown5 hb5 hgrow5 hnil5
  refine hK.out _ _ (by first | (exact HKQ.out _ (by first | exact HBF.out | exact HBE.out _ | exact HBB.out | exact HBA.out)) | ((try dsimp only); exact HKQ.out _ (by first | exact HBF.out | exact HBE.out _ | exact HBB.out | exact HBA.out))) (fun hHeld => ?_)
  clear hK K
  try simp only [Act.put, List.getElem_toArray, List.getElem_cons_succ, List.getElem_cons_zero, List.setIfInBounds_toArray, List.set_cons_succ, List.set_cons_zero]
  refine wpAnyH_take (i := 16) (v := ?vl69) rfl (by kernel_rfl) (by kernel_rfl) (by kernel_rfl) (fun _ _ _ h => h) (Or.inl ⟨by rfl, ?hl69⟩) (by assumption) ?rl69
  case hl69 => intro w hSw; (try dsimp only at hSw); go_simp; try with_reducible rfl
  simp only [Act.put, List.getElem_toArray, List.getElem_cons_succ, List.getElem_cons_zero, List.setIfInBounds_toArray, List.set_cons_succ, List.set_cons_zero]
  refine wpAnyH_done (by kernel_rfl) ?_ _
  have HBX : Hid (Below W0.heap.size W0 w5) := HBF
  have HST : Hid (stps (outs3 ++ ([⟨2, some ⟨V0.drew.heap.size, 0, none⟩, 2, 2, [z1, z0], false, ct⟩] : List Pw)) = Stp.one (Cw.c ⟨cm, cl, co, ct, ra, rn, rcap, xs⟩) (zs.drop i) ++ Stp.two (Cw.c ⟨cm, cl, co, ct, ra, rn, rcap, xs⟩) (zs.drop i)) := Lib.hid (by
    rw [stps_app, HST3.out, Stp.one_is _ (by rw [HDL.out]; omega), Stp.two_is, if_pos (unlike_yes (by rw [HDL.out]; omega) HEE.out), ← HE0.out, ← HE1.out]
    rfl)
  generalize hG : outs3 ++ ([⟨2, some ⟨V0.drew.heap.size, 0, none⟩, 2, 2, [z1, z0], false, ct⟩] : List Pw) = outs4 at HBQ HST
  clear HBP HLIT HLV HBB HBE hHeld hG HBA
  have HBP := HBQ
  clear HBQ
  obtain ⟨k0, k1, k2, k3, k4⟩ := HKP.out _ HBX.out
  go_wp2_with (first
    | (at_builtin; refine append_steps (by rfl) (.tmp 63) (.tmp 67) (by rfl) W0.heap.size _ 4 outs4 (by rfl) (by exact (HBP.out.below ((Below.refl _ w5).alloc (Nat.le_refl _) _)).made.own) (some ⟨w5.heap.size, 0, none⟩) 1 1 [⟨0, none, 0, 0, [], true, cm⟩] (by rfl) (by exact Ps.newc [⟨0, none, 0, 0, [], true, cm⟩] (by intro x hx; rw [List.mem_singleton.1 hx]; exact ⟨Sl.nil, (by decide : (Lit.int .i64 0).wf = true), HM.out.1⟩) (by unfold maxLen; simp) rfl rfl rfl) 5 (by omega) (by omega) (by have := HBX.out.size; simp; omega) ?_; intro a9 c9 w9 hown9 hb9 hgrow9 hnil9)
    | fail)
  have HB9 : Hid (Below W0.heap.size W0 w9) := Lib.hid ((HBX.out.alloc HBX.out.size _).trans hb9)
  have HOWN : Hid (MadeP w0 w9 W0.heap.size a9 5 c9 (outs4 ++ [⟨0, none, 0, 0, [], true, cm⟩])) := Lib.hid (by
    have h := HBP.out.push ((Below.refl _ w5).alloc (Nat.le_refl _) _) (fun x hx => by rw [List.mem_singleton.1 hx]; exact Pw.New.none (by decide) HM.out.1.1 HM.out.1.2) (List.pairwise_singleton _ _) (by rw [HBP.out.made.len]; rfl) hown9 hb9 hgrow9
    exact ⟨h.made.own, fun x hx => (h.new x hx).1.ok, h.made.len, HW00.out.trans (HB9.out.mono HW00.out.size)⟩)
  have HN9 := Lib.hid hnil9
  obtain ⟨outs9, ho9⟩ : ∃ l, l = outs4 ++ [(⟨0, none, 0, 0, [], true, cm⟩ : Pw)] := ⟨_, rfl⟩
  have HST9 : Hid (stps outs9 ++ Stp.ruled (zs.drop i) (ruls xs) = Stp.here (Cw.c ⟨cm, cl, co, ct, ra, rn, rcap, xs⟩) (zs.drop i)) := Lib.hid (by
    rw [ho9, stps_app, HST.out]; rfl)
  rw [← ho9] at HOWN
  clear hown9 hb9 hgrow9 hnil9 ho9 k0 k1 k2 k3 k4 HBX HBP HST
  go_loopw [7, 8, 9, 10] (fun ov kv rv nv wr => ∃ (k m c : Nat) (a : Option Addr) (outs : List Pw), ov = .slice a m c ∧ kv = .int .i64 (k : Int) ∧ k ≤ rn ∧ m ≤ 5 + k ∧ Hid (MadeP w0 wr W0.heap.size a m c outs) ∧ Hid (a = none → c = 0) ∧ Hid (stps outs = stps outs9 ++ Stp.ruled (zs.drop i) ((ruls xs).take k)) ∧ Hid (Below W0.heap.size W0 wr)) (fun _ kv _ _ _ => rn - (intOf kv).toNat)
  case atStart => exact ⟨0, 5, c9, a9, _, rfl, rfl, Nat.zero_le _, by omega, HOWN.out, HN9.out, by show _ = _; simp [Stp.ruled], HB9.out⟩
  case round =>
    obtain ⟨k, m, c, a, outs, rfl, rfl, hk1, hm1', HO, HN, HT, HBR⟩ := hrel
    obtain ⟨k0, k1, k2, k3, hrl⟩ := HKP.out wr HBR.out
    clear k0 k1 k2 k3
    have HBX : Hid (Below w0.heap.size w0 wr) := HO.out.bel
    by_cases hlt : k < rn
    · obtain ⟨rb, ro, la, ln, lc, L, ya, yn, yc, R, C, rfl, hrb, e1, e2, e3, hsL, hsR, hC0, hC9, hg⟩ := (HRS.out.below HBX.out (Nat.le_refl _)).one k hlt
      have hat : (ruls xs).getD k Rul.no = ⟨L, R, C⟩ := by rw [ruls_at, hg]; rfl
      have hkx : k < (ruls xs).length := by rw [ruls_length, HLX.out]; exact hlt
      have hln8 : ln ≤ 8 := by
        rw [← hsL.1]
        exact H8.out ⟨L, R, C⟩ (by rw [← hat, List.getD_eq_getElem?_getD, List.getElem?_eq_getElem hkx, Option.getD_some]; exact List.getElem_mem _)
      have HSL := Lib.hid hsL
      have HAT := Lib.hid hat
      have hli : (k : Int) < (rn : Int) := by omega
      have HQr : Hid (Sl .i64 wr (some ⟨qb, qo, none⟩) qn qc zs) := HQ.out.below HBX.out (Nat.le_refl _)
      have hnx := Stp.ruled_take (rest := zs.drop i) hkx
      rw [HAT.out] at hnx
      have HNX := Lib.hid hnx
      have hgr := HRS.out.good k
      rw [hg] at hgr
      have HGN : Hid ((⟨(ln : Int), ya, yn, yc, R, false, C⟩ : Pw).Good w0) := Lib.hid ⟨hgr.2.1, WalkArith.wf_i64 (n := (ln : Int)) ⟨by omega, by omega⟩, hC0, hC9⟩
      clear hnx hgr hg hat hsL hsR
      go_wp2
      obtain ⟨W2, hW2⟩ : ∃ W2, W2 = wr.alloc (.cells #[.slice la ln lc, .slice ya yn yc, .int .u64 C] 41) := ⟨_, rfl⟩
      have HA2 : Hid (Below wr.heap.size wr W2) := by rw [hW2]; exact (Below.refl _ wr).alloc (Nat.le_refl _) _
      have HC2 : Hid (W2.cell? ⟨wr.heap.size, 0, none⟩ = some (.slice la ln lc) ∧ W2.cell? ⟨wr.heap.size, 1, none⟩ = some (.slice ya yn yc) ∧ W2.cell? ⟨wr.heap.size, 2, none⟩ = some (.int .u64 C)) := by
        rw [hW2]
        exact ⟨by rw [World.cell?_alloc_mark]; rfl, by rw [World.cell?_alloc_mark]; rfl, by rw [World.cell?_alloc_mark]; rfl⟩
      rw [← hW2]
      clear hW2
      have HO2 : Hid (∀ q, MadeP w0 (W2.drewN q) W0.heap.size a m c outs ∧ Below W0.heap.size W0 (W2.drewN q)) := Lib.hid fun q =>
        ⟨(HO.out.below HA2.out).drawn ⟨q, rfl⟩, below_drawn (HBR.out.trans (HA2.out.mono HBR.out.size)) ⟨q, rfl⟩⟩
      by_cases hge : i + ln ≤ qn
      · have hle : (i : Int) + (ln : Int) ≤ (qn : Int) := by omega
        have hle2 : decide ((i : Int) + (ln : Int) ≤ (qn : Int)) = true := decide_eq_true hle
        have HPC : Hid (∀ W, Sl .i64 W (some ⟨qb, qo, none⟩) qn qc zs → Sl .i64 W (some ⟨qb, qo + i, none⟩) ln (qc - i) ((zs.drop i).take ln)) := Lib.hid fun W h => h.piece i ln (by omega)
        have hc20 := HC2.out.1
        have hk1 : (0 : Int) ≤ (i : Int) := by omega
        have hk2 : (i : Int) ≤ (i : Int) + (ln : Int) := by omega
        have hk3 : (i : Int) + (ln : Int) ≤ (qc : Int) := by omega
        have hk4 : (i : Int) ≤ (qc : Int) := by omega
        have hk5 : i ≤ qc := by omega
        have hk6 : (i : Int) + (ln : Int) - (i : Int) = (ln : Int) := by omega
        have hne1 : ¬ qc = i := by omega
        have hne2 : ¬ i = qc := by omega
        have hk7 : (qc : Int) - (i : Int) = ((qc - i : Nat) : Int) := by omega
        by_cases hs : (zs.drop i).take ln = L
        · have HD : Hid (decide ((zs.drop i).take ln = L) = true) := Lib.hid (decide_eq_true hs)
          have HLL : Hid (L.length = ln) := HSL.out.1
          have HYS : Hid (Stp.stands (zs.drop i) ⟨L, R, C⟩ = true) := by
            unfold Stp.stands
            rw [show (⟨L, R, C⟩ : Rul).L.length = ln from HSL.out.1]
            exact HD.out
          clear hs
          go_quiet (exact Calls.quiet_of (same_is _ la ln ln (qc - i) lc ((zs.drop i).take ln) L true _ (HPC.out _ ((HQr.out.below HA2.out (Nat.le_refl _)).drewN _)) ((HSL.out.below HA2.out (Nat.le_refl _)).drewN _) HD.out))
          generalize hW3 : W2.drewN nq = W3
          have HO3 : Hid (MadeP w0 W3 W0.heap.size a m c outs ∧ Below W0.heap.size W0 W3) := by rw [← hW3]; exact HO2.out _
          have HC3 : Hid (W3.cell? ⟨wr.heap.size, 1, none⟩ = some (.slice ya yn yc) ∧ W3.cell? ⟨wr.heap.size, 2, none⟩ = some (.int .u64 C)) := by rw [← hW3]; exact HC2.out.2
          have HG3 : Hid ((⟨(ln : Int), ya, yn, yc, R, false, C⟩ : Pw).Good W3) := HGN.out.below HO3.out.1.bel (Nat.le_refl _)
          clear hW3 hc20
          have hc31 := HC3.out.1
          have hc32 := HC3.out.2
          go_wp2_with (first
            | (at_builtin; refine append_steps (by rfl) (.tmp 101) (.tmp 108) (by rfl) W0.heap.size _ m outs (by rfl) (by exact (HO3.out.1.below ((Below.refl _ W3).alloc (Nat.le_refl _) _)).own) (some ⟨W3.heap.size, 0, none⟩) 1 1 [⟨(ln : Int), ya, yn, yc, R, false, C⟩] (by rfl) (by exact Ps.newc [⟨(ln : Int), ya, yn, yc, R, false, C⟩] (by intro x hx; rw [List.mem_singleton.1 hx]; exact HG3.out) (by unfold maxLen; simp) rfl rfl rfl) (m + 1) (by omega) (by omega) (by have := HO3.out.2.size; simp; omega) ?_; intro a6 c6 w6 hown6 hb6 hgrow6 hnil6)
            | fail)
          have HO6 : Hid (MadeP w0 w6 W0.heap.size a6 (m + 1) c6 (outs ++ [⟨(ln : Int), ya, yn, yc, R, false, C⟩])) := Lib.hid ((HO3.out.1.below ((Below.refl _ W3).alloc (Nat.le_refl _) _)).push HW00.out.size (fun x hx => by rw [List.mem_singleton.1 hx]; exact .inl HGN.out) (by rw [HO3.out.1.len]; rfl) hown6 hb6 hgrow6)
          have HB6 : Hid (Below W0.heap.size W0 w6) := Lib.hid ((HO3.out.2.alloc HO3.out.2.size _).trans hb6)
          have HN6 := Lib.hid hnil6
          clear hown6 hb6 hgrow6 hnil6 hc31 hc32
          go_wp2
          go_roundw
          case rel => exact ⟨k + 1, m + 1, c6, a6, _, by go_num, by go_num, by omega, by omega, HO6.out, HN6.out, (by show _ = _; rw [HNX.out, HYS.out, stps_app, HT.out, List.append_assoc]; simp [stps, Pw.s, Stp.step, HLL.out]), HB6.out⟩
          case measure => simp [intOf]; omega
        · have HD : Hid (decide ((zs.drop i).take ln = L) = false) := Lib.hid (decide_eq_false hs)
          have HNS : Hid (Stp.stands (zs.drop i) ⟨L, R, C⟩ = false) := by
            unfold Stp.stands
            rw [show (⟨L, R, C⟩ : Rul).L.length = ln from HSL.out.1]
            exact HD.out
          clear hs
          go_quiet (exact Calls.quiet_of (same_is _ la ln ln (qc - i) lc ((zs.drop i).take ln) L false _ (HPC.out _ ((HQr.out.below HA2.out (Nat.le_refl _)).drewN _)) ((HSL.out.below HA2.out (Nat.le_refl _)).drewN _) HD.out))
          go_wp2
          go_roundw
          case rel => exact ⟨k + 1, m, c, a, outs, rfl, by go_num, by omega, by omega, (HO2.out _).1, HN.out, (by show _ = _; rw [HNX.out, HNS.out, HT.out]; simp), (HO2.out _).2⟩
          case measure => simp [intOf]; omega
      · have HNS : Hid (Stp.stands (zs.drop i) ⟨L, R, C⟩ = false) := Stp.stands_no (by rw [List.length_drop, HQ.out.1]; show qn - i < L.length; rw [HSL.out.1]; omega)
        have hle : ¬ (i : Int) + (ln : Int) ≤ (qn : Int) := by omega
        have hle2 : decide ((i : Int) + (ln : Int) ≤ (qn : Int)) = false := decide_eq_false hle
        go_quiet (fail)
        go_wp2
        go_roundw
        case rel => exact ⟨k + 1, m, c, a, outs, rfl, by go_num, by omega, by omega, (HO2.out _).1, HN.out, (by show _ = _; rw [HNX.out, HNS.out, HT.out]; simp), (HO2.out _).2⟩
        case measure => simp [intOf]; omega
    · obtain rfl : k = rn := by omega
      go_wp2
      go_ret
      exact ⟨a, m, c, outs, rfl, HO.out.lower17 HW.out.size, by rw [HT.out, ← HST9.out, List.take_of_length_le (by rw [ruls_length, HLX.out]; exact Nat.le_refl _)], HN.out, HW.out.trans (HBR.out.mono HW.out.size)⟩

theorem rat17_is (c : Cw) (qa : Option Addr) (qn qc : Nat) (zs : List Int) (i : Nat) (w0 w : World) (hb0 : Below w0.heap.size w0 w) (hc : c.Good w0) (hq : Sl .i64 w0 qa qn qc zs) (hq20 : qn ≤ 20) (hk : c.n ≤ 200) (h8 : ∀ x ∈ ruls c.xs, x.L.length ≤ 8) (hi : i ≤ qn) :
    Calls Try.prog 21 #[c.v, .slice qa qn qc, .int .i64 (i : Int)] w fun e w' => StepsIs w0 w w' e (Stp.here c.c (zs.drop i)) := by
  by_cases h0 : i = qn
  · exact rat17_none c qa qn qc zs i w0 w hb0 hc hq hq20 hk h8 h0
  · by_cases h1 : i + 1 = qn
    · exact rat17_one c qa qn qc zs i w0 w hb0 hc hq hq20 hk h8 h1
    · by_cases he : (zs.drop i).getD 0 0 = (zs.drop i).getD 1 0
      · exact rat17_same c qa qn qc zs i w0 w hb0 hc hq hq20 hk h8 (by omega) he
      · exact rat17_turn c qa qn qc zs i w0 w hb0 hc hq hq20 hk h8 (by omega) he
end Go.Proofs.Ytpcebfefbnpbpaa
