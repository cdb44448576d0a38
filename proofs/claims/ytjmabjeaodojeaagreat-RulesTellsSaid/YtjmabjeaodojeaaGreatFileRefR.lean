/- Used by the law. -/
import Derived.Test.YtjmabjeaodojeaaGreatFileReadW
import Derived.Test.YtjmabjeaodojeaaGreatPackJ
import Derived.Test.YtjmabjeaodojeaaGreatPackU
import Derived.Test.YtjmabjeaodojeaaGreatPackF
import Derived.Deep.RegionHeld3
namespace Go.Proofs.YtjmabjeaodojeaaGreat
open Go Go.RowKit

set_option maxRecDepth 100000 in
theorem run_idxUo {o : Oper} {a : Act} {w : World} {x0 : Operand} {b off n c : Nat} (k : Nat) (hk : k < n ∧ k < 4) (ho : o.op = .indexAddr 40 x0 (.const (.int .i64 (k : Int)))) (hx : a.eval x0 = .slice (some ⟨b, off, none⟩) n c) : (execOp a.eval o).run Tryz.prog w = .ok (.value (.pointer (some ⟨b, off + k, none⟩))) w := by
  have hk' : (k : Int) < (n : Int) := by omega
  simp only [execOp, ho, hx]
  go_simp
theorem base_keep {w w' : World} {g bb bo k : Nat} {b0 b1 b2 b3 : Int} {p : Value} {t : TypeId} {fr : Nat × Nat} (hoff : bb = g → bo = 0) (hg : w.grownBy w' (some g)) (h2 : w'.heap[g]? = some (.cells #[Value.int .u64 b0, Value.int .u64 b1, Value.int .u64 b2, Value.int .u64 b3, p] t fr))
    (h : w.cell? ⟨bb, bo + k, none⟩ = some (.int .u64 ([b0, b1, b2, b3].getD k 0))) (hk : k < 4) : w'.cell? ⟨bb, bo + k, none⟩ = some (.int .u64 ([b0, b1, b2, b3].getD k 0)) := by
  by_cases e : bb = g
  · subst e
    obtain rfl := hoff rfl
    rw [Nat.zero_add]
    simp only [World.cell?, h2]
    match k, hk with
    | 0, _ => rfl
    | 1, _ => rfl
    | 2, _ => rfl
    | 3, _ => rfl
  · exact hg.cell h (fun h' => e (Option.some.inj h'))
theorem rs_box {w w' : World} {a : Option Addr} {n c g : Nat} {t : TypeId} {fr : Nat × Nat} {xs : List Rw} {m l q u : Int} {p : Option Addr} {k d : Nat} (h : Rs w a n c xs) (hg : w.grownBy w' (some g)) (h0 : w.heap[g]? = some (.cells #[Value.int .u64 m, Value.int .u64 l, Value.int .u64 q, Value.int .u64 u, Value.slice p k d] t fr)) : Rs w' a n c xs := by
  obtain ⟨h1, h2, h3, h4, h5⟩ := h
  refine ⟨h1, h2, h3, fun x hm => (h4 x hm).apart hg h0 (costs_no _ _ _ _ _ _ _), ?_⟩
  rcases h5 with h5 | ⟨b, off, ha, hc⟩
  · exact .inl h5
  · refine .inr ⟨b, off, ha, fun i hi => (hc i hi).grown' hg (fun e => ?_)⟩
    obtain rfl := Option.some.inj e
    have h6 := (hc i hi).1
    have h7 := (hc i hi).2.1
    simp only [World.cell?, h0] at h6 h7
    generalize off + i * 3 = z at h6 h7
    match z, h6, h7 with
    | 0, h6, _ => simp [Rw.l] at h6
    | 1, h6, _ => simp [Rw.l] at h6
    | 2, h6, _ => simp [Rw.l] at h6
    | 3, h6, _ => simp [Rw.l] at h6
    | 4, _, h7 => simp at h7
    | z + 5, h6, _ => simp at h6

set_option maxHeartbeats 12800000 in
set_option maxRecDepth 100000 in
theorem rread8_is (a0 : Option Addr) (n0 cap0 : Nat) (zs : List Int) (g : File.Got) (w : World) (hs : Sl .u8 w a0 n0 cap0 zs) (hn : n0 ≤ 1000000) (hsh : ∀ x ∈ Line.split zs, x.length ≤ 5000) (hr : File.read zs = g) :
    Calls Tryz.prog 7 #[.slice a0 n0 cap0] w fun e w' => GotIs w w' e g := by
  have HS := Lib.hid hs
  have HSH := Lib.hid hsh
  obtain ⟨ls, hls⟩ : ∃ ls, Line.split zs = ls := ⟨_, rfl⟩
  unfold File.read at hr
  rw [hls] at hr
  have HR := Lib.hid hr
  have HLS := Lib.hid hls
  have HI5z : Hid ((Tryz.prog.info? 26).map (·.size) = some (#[Value.int .u64 0, Value.int .u64 0, Value.int .u64 0, Value.int .u64 0, Value.slice none 0 0]).size) := info_cost5
  have hmx : Tryz.prog.follows .mixedOrders = true := by kernel_rfl
  have HMX := Lib.hid hmx
  have HW0 : ∀ o1 W, Below (w.alloc o1).heap.size (w.alloc o1) W → Hid (W.heap[w.heap.size]? = some o1 ∧ Below w.heap.size w W) := fun o1 W h => by
    have e1 : (w.alloc o1).heap.size = w.heap.size + 1 := World.size_alloc w o1
    exact ⟨(h.block _ (by omega)).trans (heap_alloc_new w o1), ((Below.refl w.heap.size w).alloc (Nat.le_refl _) o1).trans (h.mono (by omega))⟩
  clear hs hsh hr hls hmx
  go_enter Tryz.func7, Tryz.ntmps7
  go_wp2_with fail
  refine (rsplit_any a0 n0 cap0 zs _ (HS.out.alloc _) hn).mono ?_
  rintro e W4 ⟨la, M, lc, rows, rfl, hrows, hbn, -, hb4⟩
  obtain ⟨hz4, hbw4⟩ := (HW0 _ W4 hb4).out
  have HZ4 : Hid (W4.heap[w.heap.size]? = some (.cells #[Value.int .u64 0, Value.int .u64 0, Value.int .u64 0, Value.int .u64 0, Value.slice none 0 0] 26 (0, 0))) := hz4
  have HBW4 := Lib.hid hbw4
  have HROWS := Lib.hid hrows
  have HBN : Hid (bnums rows = ls) := by show _ = _; rw [hbn, HLS.out]
  have HLM : Hid (ls.length = M) := by show _ = _; rw [← HBN.out, bnums_length, hrows.1]
  have HONE : ∀ fr, Hid (Sl .u64 (W4.alloc (.cells (([1, 1, 1, 1] : List Int).map (Value.int .u64)).toArray 23 fr)) (some ⟨W4.heap.size, 0, none⟩) 4 4 [1, 1, 1, 1]) := fun fr => Sl.lay [1, 1, 1, 1] (by decide) (by simp [maxLen]) rfl rfl rfl
  have HBONE : ∀ o, Hid (Below W4.heap.size W4 (W4.alloc o)) := fun o => (Below.refl _ W4).alloc (Nat.le_refl _) o
  have hlcm := hrows.2.2.1
  have hMlc := hrows.2.1
  unfold maxLen at hlcm
  clear hz4 hbw4 hrows hbn hb4 HW0
  go_wp2
  go_loopw [6, 7, 8, 9] (fun bv sv rv ix wr => ∃ (i bb bo bc : Nat) (had : Bool) (a1 : Option Addr) (n1 c1 : Nat) (xs : List Rw) (bs : List Int), i ≤ M ∧ bv = .slice (some ⟨bb, bo, none⟩) 4 bc ∧ sv = .bool had ∧ rv = .slice a1 n1 c1 ∧ ix = .int .i64 (i : Int) ∧ n1 ≤ 200 ∧ Hid (Sl .u64 wr (some ⟨bb, bo, none⟩) 4 bc bs) ∧ Hid (∀ z ∈ bs, 0 ≤ z ∧ z < 18446744073709551616) ∧ Hid (Rs wr a1 n1 c1 xs) ∧ Hid (a1 = none → c1 = 0) ∧ Hid (File.readA i had bs (ruls xs) (ls.drop i) = g) ∧ Hid (Below W4.heap.size W4 wr)) (fun _ _ _ ix _ => M - (intOf ix).toNat)
  case atStart =>
    refine ⟨0, _, _, _, false, none, 0, 0, [], [1, 1, 1, 1], Nat.zero_le _, rfl, rfl, rfl, rfl, by omega, (HONE _).out, by show ∀ z ∈ ([1, 1, 1, 1] : List Int), _; simp, Rs.nil, fun _ => rfl, ?_, (HBONE _).out⟩
    show File.readA 0 false [1, 1, 1, 1] (ruls []) (ls.drop 0) = g
    rw [List.drop_zero]; exact HR.out
  case round =>
    obtain ⟨i, bb, bo, bc, had, a1, n1, c1, xs, bs, hi, rfl, rfl, rfl, rfl, hn1, HSB, HBB, HRX, HNX, HREAD, HBR⟩ := hrel
    have HZR : Hid (wr.heap[w.heap.size]? = some (.cells #[Value.int .u64 0, Value.int .u64 0, Value.int .u64 0, Value.int .u64 0, Value.slice none 0 0] 26 (0, 0))) := (HBR.out.block _ (Array.getElem?_eq_some_iff.1 HZ4.out).1).trans HZ4.out
    have HBWR : Hid (Below w.heap.size w wr) := HBW4.out.trans (HBR.out.mono HBW4.out.size)
    have hbcm := HSB.out.2.1
    have hbcm2 := HSB.out.2.2.1
    have hn1c := HRX.out.2.1
    have hc1m := HRX.out.2.2.1
    unfold maxLen at hbcm2 hc1m
    by_cases hlt : i < M
    · obtain ⟨b1, o1, za, zn, zc, z, rfl, hb1, hgd, hcl, hsl, hz⟩ := HROWS.out.one i hlt
      have hzl : ls.getD i [] = z := by rw [← HBN.out]; exact hz
      have hzin : z ∈ ls := by rw [← hzl, List.getD_eq_getElem?_getD, List.getElem?_eq_getElem (by rw [HLM.out]; exact hlt), Option.getD_some]; exact List.getElem_mem _
      have hzlen : z.length ≤ 5000 := HSH.out z (by rw [HLS.out]; exact hzin)
      have hcl' : wr.cell? ⟨b1, o1 + i, none⟩ = some (.slice za zn zc) := by rw [HBR.out.cell (p := ⟨b1, o1 + i, none⟩) hb1]; exact hcl
      have HSL : Hid (Sl .u8 wr za zn zc z) := hsl.below HBR.out (Nat.le_refl _)
      obtain ⟨s, hsr⟩ : ∃ s, Spec.read z = s := ⟨_, rfl⟩
      have HSR := Lib.hid hsr
      have HSTEP := Lib.hid (readA_step HREAD.out (by rw [HLM.out]; exact hlt) hzl hsr)
      have hznl : zn ≤ 5000 := by have : z.length = zn := hsl.1; omega
      have HRL : Hid (s.rules.length ≤ 15000) := by
        have := read_len z
        rw [hsr] at this
        show _ ≤ _; omega
      have HBSF : Hid ((s.base = [] ∨ s.base.length = 4) ∧ ∀ x ∈ s.base, 0 ≤ x ∧ x < 18446744073709551616) := by
        rw [← hsr]
        exact ⟨File.base_four z, fun x hx => ⟨(File.base_lt z x hx).1, by have := (File.base_lt z x hx).2; omega⟩⟩
      have hlti : (i : Int) < (M : Int) := by omega
      clear hcl hsl hz hzl hzin hzlen hsr hgd hb1
      go_wp2_with fail
      refine (rread7_is za zn zc z s wr HSL.out hznl HSR.out).mono ?_
      rintro e V ⟨ba, bn, bc2, ra, rn, rc, ys, rfl, hbs, hbc, hrs, hru, hrc, hb⟩
      have HBV : Hid (Below W4.heap.size W4 V) := HBR.out.trans (hb.mono HBR.out.size)
      have HZV : ∀ ob, Hid ((V.alloc ob).heap[w.heap.size]? = some (.cells #[Value.int .u64 0, Value.int .u64 0, Value.int .u64 0, Value.int .u64 0, Value.slice none 0 0] 26 (0, 0))) := fun ob => ((HBV.out.alloc HBV.out.size ob).block _ (Array.getElem?_eq_some_iff.1 HZ4.out).1).trans HZ4.out
      have HBVA : ∀ ob, Hid (Below w.heap.size w (V.alloc ob)) := fun ob => HBW4.out.trans ((HBV.out.alloc HBV.out.size ob).mono HBW4.out.size)
      have HRV : Hid (Rs V a1 n1 c1 xs) := HRX.out.below hb (Nat.le_refl _)
      have HSBV : Hid (Sl .u64 V (some ⟨bb, bo, none⟩) 4 bc bs) := HSB.out.below hb (Nat.le_refl _)
      have HYV := Lib.hid hrs
      have HYR := Lib.hid hru
      have HBSV := Lib.hid hbs
      have hbn : s.base.length = bn := hbs.1
      have hrn : rn ≤ 15000 := by have h1 := HRL.out; rw [← hru, ruls_length, hrs.1] at h1; exact h1
      have hbnc := hbs.2.1
      have hbcm3 := hbs.2.2.1
      have hrnc := hrs.2.1
      have hrcm := hrs.2.2.1
      unfold maxLen at hbcm3 hrcm
      clear hbs hbc hrs hru hrc hb
      by_cases he : s.e = 0
      · have hne : (s.e != 0) = false := by simp [he]
        have HST2 := Lib.hid HSTEP.out
        rw [if_neg (by simp [he])] at HST2
        by_cases hbe : s.base = []
        · obtain rfl : bn = 0 := by rw [← hbn, hbe]; rfl
          rw [if_neg (by simp [hbe]), hbe] at HST2
          have HST3 : Hid ((if 200 < (nrm (ruls xs ++ s.rules)).length then (⟨File.Cst.zero, (i : Int), 81⟩ : File.Got) else File.readA (i + 1) had bs (nrm (ruls xs ++ s.rules)) (ls.drop (i + 1))) = g) := by
            have h := HST2.out
            simp only [decide_true, Bool.not_true, Bool.or_false, if_true] at h
            exact h
          clear HST2 hbe hbn HSTEP
          go_wp2_with fail
          obtain ⟨U, hU⟩ : ∃ U, U = V.alloc (.cells #[.slice ba 0 bc2, .slice ra rn rc] 44 (0, 0)) := ⟨_, rfl⟩
          have hVU : Below V.heap.size V U := by rw [hU]; exact (Below.refl _ V).alloc (Nat.le_refl _) _
          have HXU : Hid (U.heap[V.heap.size]? = some (.cells #[.slice ba 0 bc2, .slice ra rn rc] 44 (0, 0))) := by rw [hU]; exact heap_alloc_new V _
          have HBU : Hid (Below W4.heap.size W4 U) := HBV.out.trans (hVU.mono HBV.out.size)
          have HRU : Hid (Rs U a1 n1 c1 xs) := HRV.out.below hVU (Nat.le_refl _)
          have HYU : Hid (Rs U ra rn rc ys) := HYV.out.below hVU (Nat.le_refl _)
          have HSBU : Hid (Sl .u64 U (some ⟨bb, bo, none⟩) 4 bc bs) := Sl.below HSBV.out hVU (Nat.le_refl _)
          rw [← hU]
          clear hU hVU
          have hd0 : Below U.heap.size U U.drew := below_drawn (Below.refl _ U) ⟨1, rfl⟩
          have hd1 : Below U.heap.size U (U.drew.alloc (.cells #[] 39)) := hd0.alloc hd0.size _
          have HKEEP : Hid (∀ W, Below U.heap.size U W → W.cell? ⟨V.heap.size, 1, none⟩ = some (.slice ra rn rc)) := fun W hb => by
            have h6 := (hb.block _ (Array.getElem?_eq_some_iff.1 HXU.out).1).trans HXU.out
            simp [World.cell?, h6]
          have hmx := HMX.out
          refine wp_region_held_drew (S := (fun W => W.cell? ⟨V.heap.size, 1, none⟩ = some (.slice ra rn rc))) (by kernel_rfl) (by first | (first | exact HKEEP.out _ hbA | exact HKEEP.out _ hbQ | exact HKEEP.out _ hbP | exact HKEEP.out _ hd1 | exact HKEEP.out _ hd0) | ((try dsimp only); first | exact HKEEP.out _ hbA | exact HKEEP.out _ hbQ | exact HKEEP.out _ hbP | exact HKEEP.out _ hd1 | exact HKEEP.out _ hd0)) (fun hHeld => ?_)
          refine wpAnyH_take (i := 1) (v := ?vra1) rfl (by kernel_rfl) (by kernel_rfl) (by kernel_rfl) (fun _ _ _ h => h) (Or.inl ⟨by rfl, ?hra1⟩) (by assumption) ?rra1
          case hra1 => intro w hSw; (try dsimp only at hSw); go_simp; try with_reducible rfl
          simp only [Act.put, List.getElem_toArray, List.getElem_cons_succ, List.getElem_cons_zero, List.setIfInBounds_toArray, List.set_cons_succ, List.set_cons_zero]
          refine wpAnyH_take (i := 3) (v := ?vra4) rfl (by kernel_rfl) (by kernel_rfl) (by kernel_rfl) (fun _ _ _ h => h) (Or.inl ⟨by rfl, ?hra4⟩) (by assumption) ?rra4
          case hra4 => intro w hSw; (try dsimp only at hSw); go_simp; try with_reducible rfl
          simp only [Act.put, List.getElem_toArray, List.getElem_cons_succ, List.getElem_cons_zero, List.setIfInBounds_toArray, List.set_cons_succ, List.set_cons_zero]
          refine wpAnyH_take (i := 4) (v := ?vra7) rfl (by kernel_rfl) (by kernel_rfl) (by kernel_rfl) (fun _ _ _ h => h) (Or.inl ⟨by rfl, ?hra7⟩) (by assumption) ?rra7
          case hra7 => intro w hSw; (try dsimp only at hSw); go_simp; try with_reducible rfl
          simp only [Act.put, List.getElem_toArray, List.getElem_cons_succ, List.getElem_cons_zero, List.setIfInBounds_toArray, List.set_cons_succ, List.set_cons_zero]
          refine wpAnyH_ready (rs := [0]) (by kernel_rfl) (by simp) ?_
          refine AllReadyH.cons rfl (fun K hK => ?_) AllReadyH.nil
          go_simp
          refine hK.out _ _ (by first | (first | exact HKEEP.out _ hbA | exact HKEEP.out _ hbQ | exact HKEEP.out _ hbP | exact HKEEP.out _ hd1 | exact HKEEP.out _ hd0) | ((try dsimp only); first | exact HKEEP.out _ hbA | exact HKEEP.out _ hbQ | exact HKEEP.out _ hbP | exact HKEEP.out _ hd1 | exact HKEEP.out _ hd0)) (fun hHeld => ?_)
          clear hK K
          try simp only [Act.put, List.getElem_toArray, List.getElem_cons_succ, List.getElem_cons_zero, List.setIfInBounds_toArray, List.set_cons_succ, List.set_cons_zero]
          refine wpAnyH_ready (rs := [2]) (by kernel_rfl) (by simp) ?_
          refine AllReadyH.cons rfl (fun K hK => ?_) AllReadyH.nil
          refine step_append_rules (w0 := U) (by rfl) (.tmp 49) (.tmp 50) (by rfl) U.heap.size _ 0 [] (by rfl) (owns0_rules U.drew) a1 n1 c1 xs (by rfl) ((HRU.out.below hd0 (Nat.le_refl _)).alloc _) n1 (by omega) (by omega) (Nat.le_refl _) hd1 ?_
          intro aP cP wP hownP hbP _ _
          simp only [List.nil_append] at hownP
          refine hK.out _ _ (by first | (first | exact HKEEP.out _ hbA | exact HKEEP.out _ hbQ | exact HKEEP.out _ hbP | exact HKEEP.out _ hd1 | exact HKEEP.out _ hd0) | ((try dsimp only); first | exact HKEEP.out _ hbA | exact HKEEP.out _ hbQ | exact HKEEP.out _ hbP | exact HKEEP.out _ hd1 | exact HKEEP.out _ hd0)) (fun hHeld => ?_)
          clear hK K
          try simp only [Act.put, List.getElem_toArray, List.getElem_cons_succ, List.getElem_cons_zero, List.setIfInBounds_toArray, List.set_cons_succ, List.set_cons_zero]
          refine wpAnyH_ready (rs := [5]) (by kernel_rfl) (by simp) ?_
          refine AllReadyH.cons rfl (fun K hK => ?_) AllReadyH.nil
          refine step_append_rules (w0 := U) (by rfl) (.tmp 51) (.tmp 53) (by rfl) U.heap.size _ n1 xs (by rfl) hownP ra rn rc ys (by rfl) (HYU.out.below hbP (Nat.le_refl _)) (n1 + rn) (by omega) (by omega) (Nat.le_refl _) hbP ?_
          intro aQ cQ wQ hownQ hbQ _ _
          have hrsQ : Rs wQ aQ (n1 + rn) cQ (xs ++ ys) := Rs.of_owns hownQ (fun x hx => by
            rcases List.mem_append.1 hx with hx | hx
            · exact (HRU.out.2.2.2.1 x hx).below hbQ (Nat.le_refl _)
            · exact (HYU.out.2.2.2.1 x hx).below hbQ (Nat.le_refl _)) (by rw [List.length_append, HRU.out.1, HYU.out.1])
          refine hK.out _ _ (by first | (first | exact HKEEP.out _ hbA | exact HKEEP.out _ hbQ | exact HKEEP.out _ hbP | exact HKEEP.out _ hd1 | exact HKEEP.out _ hd0) | ((try dsimp only); first | exact HKEEP.out _ hbA | exact HKEEP.out _ hbQ | exact HKEEP.out _ hbP | exact HKEEP.out _ hd1 | exact HKEEP.out _ hd0)) (fun hHeld => ?_)
          clear hK K
          try simp only [Act.put, List.getElem_toArray, List.getElem_cons_succ, List.getElem_cons_zero, List.setIfInBounds_toArray, List.set_cons_succ, List.set_cons_zero]
          refine wpAnyH_ready (rs := [6]) (by kernel_rfl) (by simp) ?_
          refine AllReadyH.cons rfl (fun K hK => ?_) AllReadyH.nil
          go_simp
          go_at_call 18
          refine (rnorm_any aQ (n1 + rn) cQ (xs ++ ys) wQ hrsQ (by omega)).mono ?_
          rintro e v6 ⟨a3, n3, c3, xs3, rfl, hrs3, hru3, hn3, hnil3, hbN⟩
          have hbA : Below U.heap.size U v6 := hbQ.trans (hbN.mono hbQ.size)
          go_wp2_with fail
          refine hK.out _ _ (by first | (first | exact HKEEP.out _ hbA | exact HKEEP.out _ hbQ | exact HKEEP.out _ hbP | exact HKEEP.out _ hd1 | exact HKEEP.out _ hd0) | ((try dsimp only); first | exact HKEEP.out _ hbA | exact HKEEP.out _ hbQ | exact HKEEP.out _ hbP | exact HKEEP.out _ hd1 | exact HKEEP.out _ hd0)) (fun hHeld => ?_)
          clear hK K
          try simp only [Act.put, List.getElem_toArray, List.getElem_cons_succ, List.getElem_cons_zero, List.setIfInBounds_toArray, List.set_cons_succ, List.set_cons_zero]
          refine wpAnyH_take (i := 7) (v := ?vra46) rfl (by kernel_rfl) (by kernel_rfl) (by kernel_rfl) (fun _ _ _ h => h) (Or.inl ⟨by rfl, ?hra46⟩) (by assumption) ?rra46
          case hra46 => intro w hSw; (try dsimp only at hSw); go_simp; try with_reducible rfl
          simp only [Act.put, List.getElem_toArray, List.getElem_cons_succ, List.getElem_cons_zero, List.setIfInBounds_toArray, List.set_cons_succ, List.set_cons_zero]
          refine wpAnyH_done (by kernel_rfl) ?_ _
          have HRS3 := Lib.hid hrs3
          have HRU3 : Hid (ruls xs3 = nrm (ruls xs ++ s.rules)) := by show _ = _; rw [hru3, ruls_app, HYR.out]
          have HN3 : Hid ((nrm (ruls xs ++ s.rules)).length = n3) := by show _ = _; rw [← HRU3.out, ruls_length]; exact hrs3.1
          have HNIL3 := Lib.hid hnil3
          have hnc3 := hrs3.2.1
          have hcm3 := hrs3.2.2.1
          unfold maxLen at hcm3
          have HB46 : Hid (Below W4.heap.size W4 v6) := HBU.out.trans (hbA.mono HBU.out.size)
          have HSB6 : Hid (Sl .u64 v6 (some ⟨bb, bo, none⟩) 4 bc bs) := HSBU.out.below hbA (Nat.le_refl _)
          have HZ6 : Hid (v6.heap[w.heap.size]? = some (.cells #[Value.int .u64 0, Value.int .u64 0, Value.int .u64 0, Value.int .u64 0, Value.slice none 0 0] 26 (0, 0))) := (HB46.out.block _ (Array.getElem?_eq_some_iff.1 HZ4.out).1).trans HZ4.out
          clear hrs3 hru3 hn3 hnil3 hbN hbA hbQ hrsQ hownQ hbP hownP hd1 hd0 hHeld
          by_cases h200 : 200 < n3
          · have h200i : (200 : Int) < (n3 : Int) := by omega
            have HEND : Hid ((⟨File.Cst.zero, (i : Int), 81⟩ : File.Got) = g) := by
              have h := HST3.out
              rw [if_pos (by rw [HN3.out]; exact h200)] at h; exact h
            have HB6 : Hid (Below w.heap.size w v6) := HBW4.out.trans (HB46.out.mono HBW4.out.size)
            go_wp2_with (refine wpList_store_g (by rfl) 26 (.tmp 2) (.tmp 59) (by rfl) w.heap.size #[Value.int .u64 0, Value.int .u64 0, Value.int .u64 0, Value.int .u64 0, Value.slice none 0 0] (by rfl) (by rfl) 26 #[Value.int .u64 0, Value.int .u64 0, Value.int .u64 0, Value.int .u64 0, Value.slice none 0 0] HZ6.out HI5z.out rfl (by simp [Value.oneCell']) ?_
                         intro we hwe hge hsze
                         have HWE := Lib.hid hwe
                         have HGE := Lib.hid hge
                         clear hwe hge hsze)
            refine bodyPost_ret (results_cell_row_tmp2 rfl _ _ w.heap.size 26 #[Value.int .u64 0, Value.int .u64 0, Value.int .u64 0, Value.int .u64 0, Value.slice none 0 0] (0, 0) _ (by rfl) HWE.out Tryz.underlying26 (by rfl) HI5z.out) rfl ?_
            exact got_zero HEND.out rfl (HB6.out.grown HGE.out HB6.out.size (fun k hk => by cases hk; exact Nat.le_refl _))
          · have h200i : ¬ (200 : Int) < (n3 : Int) := by omega
            have HEND : Hid (File.readA (i + 1) had bs (ruls xs3) (ls.drop (i + 1)) = g) := by
              have h := HST3.out
              rw [if_neg (by rw [HN3.out]; exact h200), ← HRU3.out] at h; exact h
            go_wp2
            go_roundw
            case rel => exact ⟨i + 1, bb, bo, bc, had, a3, n3, c3, xs3, bs, by omega, rfl, rfl, rfl, by go_num, by omega, HSB6.out, HBB.out, HRS3.out, HNIL3.out, HEND.out, HB46.out⟩
            case measure => simp [intOf]; omega

        · have hb4l : s.base.length = 4 := HBSF.out.1.resolve_left hbe
          obtain rfl : bn = 4 := by rw [← hbn, hb4l]
          cases had
          · have HST3 : Hid ((if 200 < (nrm (ruls xs ++ s.rules)).length then (⟨File.Cst.zero, (i : Int), 81⟩ : File.Got) else File.readA (i + 1) true s.base (nrm (ruls xs ++ s.rules)) (ls.drop (i + 1))) = g) := by
              have h := HST2.out
              rw [if_neg (by simp), if_neg hbe] at h
              simp only [hbe, decide_false, Bool.not_false, Bool.or_true, if_false] at h
              exact h
            obtain ⟨bb2, bo2, rfl, -, -⟩ := HBSV.out.at (by omega)
            clear HST2 hbe hbn HSTEP hb4l
            go_wp2_with fail
            obtain ⟨U, hU⟩ : ∃ U, U = V.alloc (.cells #[.slice (some ⟨bb2, bo2, none⟩) 4 bc2, .slice ra rn rc] 44 (0, 0)) := ⟨_, rfl⟩
            have hVU : Below V.heap.size V U := by rw [hU]; exact (Below.refl _ V).alloc (Nat.le_refl _) _
            have HXU : Hid (U.heap[V.heap.size]? = some (.cells #[.slice (some ⟨bb2, bo2, none⟩) 4 bc2, .slice ra rn rc] 44 (0, 0))) := by rw [hU]; exact heap_alloc_new V _
            have HBU : Hid (Below W4.heap.size W4 U) := HBV.out.trans (hVU.mono HBV.out.size)
            have HRU : Hid (Rs U a1 n1 c1 xs) := HRV.out.below hVU (Nat.le_refl _)
            have HYU : Hid (Rs U ra rn rc ys) := HYV.out.below hVU (Nat.le_refl _)
            have HSBU : Hid (Sl .u64 U (some ⟨bb2, bo2, none⟩) 4 bc2 s.base) := Sl.below HBSV.out hVU (Nat.le_refl _)
            rw [← hU]
            clear hU hVU
            have hd0 : Below U.heap.size U U.drew := below_drawn (Below.refl _ U) ⟨1, rfl⟩
            have hd1 : Below U.heap.size U (U.drew.alloc (.cells #[] 39)) := hd0.alloc hd0.size _
            have HKEEP : Hid (∀ W, Below U.heap.size U W → W.cell? ⟨V.heap.size, 1, none⟩ = some (.slice ra rn rc)) := fun W hb => by
              have h6 := (hb.block _ (Array.getElem?_eq_some_iff.1 HXU.out).1).trans HXU.out
              simp [World.cell?, h6]
            have hmx := HMX.out
            refine wp_region_held_drew (S := (fun W => W.cell? ⟨V.heap.size, 1, none⟩ = some (.slice ra rn rc))) (by kernel_rfl) (by first | (first | exact HKEEP.out _ hbA | exact HKEEP.out _ hbQ | exact HKEEP.out _ hbP | exact HKEEP.out _ hd1 | exact HKEEP.out _ hd0) | ((try dsimp only); first | exact HKEEP.out _ hbA | exact HKEEP.out _ hbQ | exact HKEEP.out _ hbP | exact HKEEP.out _ hd1 | exact HKEEP.out _ hd0)) (fun hHeld => ?_)
            refine wpAnyH_take (i := 1) (v := ?vrb1) rfl (by kernel_rfl) (by kernel_rfl) (by kernel_rfl) (fun _ _ _ h => h) (Or.inl ⟨by rfl, ?hrb1⟩) (by assumption) ?rrb1
            case hrb1 => intro w hSw; (try dsimp only at hSw); go_simp; try with_reducible rfl
            simp only [Act.put, List.getElem_toArray, List.getElem_cons_succ, List.getElem_cons_zero, List.setIfInBounds_toArray, List.set_cons_succ, List.set_cons_zero]
            refine wpAnyH_take (i := 3) (v := ?vrb4) rfl (by kernel_rfl) (by kernel_rfl) (by kernel_rfl) (fun _ _ _ h => h) (Or.inl ⟨by rfl, ?hrb4⟩) (by assumption) ?rrb4
            case hrb4 => intro w hSw; (try dsimp only at hSw); go_simp; try with_reducible rfl
            simp only [Act.put, List.getElem_toArray, List.getElem_cons_succ, List.getElem_cons_zero, List.setIfInBounds_toArray, List.set_cons_succ, List.set_cons_zero]
            refine wpAnyH_take (i := 4) (v := ?vrb7) rfl (by kernel_rfl) (by kernel_rfl) (by kernel_rfl) (fun _ _ _ h => h) (Or.inl ⟨by rfl, ?hrb7⟩) (by assumption) ?rrb7
            case hrb7 => intro w hSw; (try dsimp only at hSw); go_simp; try with_reducible rfl
            simp only [Act.put, List.getElem_toArray, List.getElem_cons_succ, List.getElem_cons_zero, List.setIfInBounds_toArray, List.set_cons_succ, List.set_cons_zero]
            refine wpAnyH_ready (rs := [0]) (by kernel_rfl) (by simp) ?_
            refine AllReadyH.cons rfl (fun K hK => ?_) AllReadyH.nil
            go_simp
            refine hK.out _ _ (by first | (first | exact HKEEP.out _ hbA | exact HKEEP.out _ hbQ | exact HKEEP.out _ hbP | exact HKEEP.out _ hd1 | exact HKEEP.out _ hd0) | ((try dsimp only); first | exact HKEEP.out _ hbA | exact HKEEP.out _ hbQ | exact HKEEP.out _ hbP | exact HKEEP.out _ hd1 | exact HKEEP.out _ hd0)) (fun hHeld => ?_)
            clear hK K
            try simp only [Act.put, List.getElem_toArray, List.getElem_cons_succ, List.getElem_cons_zero, List.setIfInBounds_toArray, List.set_cons_succ, List.set_cons_zero]
            refine wpAnyH_ready (rs := [2]) (by kernel_rfl) (by simp) ?_
            refine AllReadyH.cons rfl (fun K hK => ?_) AllReadyH.nil
            refine step_append_rules (w0 := U) (by rfl) (.tmp 49) (.tmp 50) (by rfl) U.heap.size _ 0 [] (by rfl) (owns0_rules U.drew) a1 n1 c1 xs (by rfl) ((HRU.out.below hd0 (Nat.le_refl _)).alloc _) n1 (by omega) (by omega) (Nat.le_refl _) hd1 ?_
            intro aP cP wP hownP hbP _ _
            simp only [List.nil_append] at hownP
            refine hK.out _ _ (by first | (first | exact HKEEP.out _ hbA | exact HKEEP.out _ hbQ | exact HKEEP.out _ hbP | exact HKEEP.out _ hd1 | exact HKEEP.out _ hd0) | ((try dsimp only); first | exact HKEEP.out _ hbA | exact HKEEP.out _ hbQ | exact HKEEP.out _ hbP | exact HKEEP.out _ hd1 | exact HKEEP.out _ hd0)) (fun hHeld => ?_)
            clear hK K
            try simp only [Act.put, List.getElem_toArray, List.getElem_cons_succ, List.getElem_cons_zero, List.setIfInBounds_toArray, List.set_cons_succ, List.set_cons_zero]
            refine wpAnyH_ready (rs := [5]) (by kernel_rfl) (by simp) ?_
            refine AllReadyH.cons rfl (fun K hK => ?_) AllReadyH.nil
            refine step_append_rules (w0 := U) (by rfl) (.tmp 51) (.tmp 53) (by rfl) U.heap.size _ n1 xs (by rfl) hownP ra rn rc ys (by rfl) (HYU.out.below hbP (Nat.le_refl _)) (n1 + rn) (by omega) (by omega) (Nat.le_refl _) hbP ?_
            intro aQ cQ wQ hownQ hbQ _ _
            have hrsQ : Rs wQ aQ (n1 + rn) cQ (xs ++ ys) := Rs.of_owns hownQ (fun x hx => by
              rcases List.mem_append.1 hx with hx | hx
              · exact (HRU.out.2.2.2.1 x hx).below hbQ (Nat.le_refl _)
              · exact (HYU.out.2.2.2.1 x hx).below hbQ (Nat.le_refl _)) (by rw [List.length_append, HRU.out.1, HYU.out.1])
            refine hK.out _ _ (by first | (first | exact HKEEP.out _ hbA | exact HKEEP.out _ hbQ | exact HKEEP.out _ hbP | exact HKEEP.out _ hd1 | exact HKEEP.out _ hd0) | ((try dsimp only); first | exact HKEEP.out _ hbA | exact HKEEP.out _ hbQ | exact HKEEP.out _ hbP | exact HKEEP.out _ hd1 | exact HKEEP.out _ hd0)) (fun hHeld => ?_)
            clear hK K
            try simp only [Act.put, List.getElem_toArray, List.getElem_cons_succ, List.getElem_cons_zero, List.setIfInBounds_toArray, List.set_cons_succ, List.set_cons_zero]
            refine wpAnyH_ready (rs := [6]) (by kernel_rfl) (by simp) ?_
            refine AllReadyH.cons rfl (fun K hK => ?_) AllReadyH.nil
            go_simp
            go_at_call 18
            refine (rnorm_any aQ (n1 + rn) cQ (xs ++ ys) wQ hrsQ (by omega)).mono ?_
            rintro e v6 ⟨a3, n3, c3, xs3, rfl, hrs3, hru3, hn3, hnil3, hbN⟩
            have hbA : Below U.heap.size U v6 := hbQ.trans (hbN.mono hbQ.size)
            go_wp2_with fail
            refine hK.out _ _ (by first | (first | exact HKEEP.out _ hbA | exact HKEEP.out _ hbQ | exact HKEEP.out _ hbP | exact HKEEP.out _ hd1 | exact HKEEP.out _ hd0) | ((try dsimp only); first | exact HKEEP.out _ hbA | exact HKEEP.out _ hbQ | exact HKEEP.out _ hbP | exact HKEEP.out _ hd1 | exact HKEEP.out _ hd0)) (fun hHeld => ?_)
            clear hK K
            try simp only [Act.put, List.getElem_toArray, List.getElem_cons_succ, List.getElem_cons_zero, List.setIfInBounds_toArray, List.set_cons_succ, List.set_cons_zero]
            refine wpAnyH_take (i := 7) (v := ?vrb46) rfl (by kernel_rfl) (by kernel_rfl) (by kernel_rfl) (fun _ _ _ h => h) (Or.inl ⟨by rfl, ?hrb46⟩) (by assumption) ?rrb46
            case hrb46 => intro w hSw; (try dsimp only at hSw); go_simp; try with_reducible rfl
            simp only [Act.put, List.getElem_toArray, List.getElem_cons_succ, List.getElem_cons_zero, List.setIfInBounds_toArray, List.set_cons_succ, List.set_cons_zero]
            refine wpAnyH_done (by kernel_rfl) ?_ _
            have HRS3 := Lib.hid hrs3
            have HRU3 : Hid (ruls xs3 = nrm (ruls xs ++ s.rules)) := by show _ = _; rw [hru3, ruls_app, HYR.out]
            have HN3 : Hid ((nrm (ruls xs ++ s.rules)).length = n3) := by show _ = _; rw [← HRU3.out, ruls_length]; exact hrs3.1
            have HNIL3 := Lib.hid hnil3
            have hnc3 := hrs3.2.1
            have hcm3 := hrs3.2.2.1
            unfold maxLen at hcm3
            have HB46 : Hid (Below W4.heap.size W4 v6) := HBU.out.trans (hbA.mono HBU.out.size)
            have HSB6 : Hid (Sl .u64 v6 (some ⟨bb2, bo2, none⟩) 4 bc2 s.base) := HSBU.out.below hbA (Nat.le_refl _)
            have HZ6 : Hid (v6.heap[w.heap.size]? = some (.cells #[Value.int .u64 0, Value.int .u64 0, Value.int .u64 0, Value.int .u64 0, Value.slice none 0 0] 26 (0, 0))) := (HB46.out.block _ (Array.getElem?_eq_some_iff.1 HZ4.out).1).trans HZ4.out
            clear hrs3 hru3 hn3 hnil3 hbN hbA hbQ hrsQ hownQ hbP hownP hd1 hd0 hHeld
            by_cases h200 : 200 < n3
            · have h200i : (200 : Int) < (n3 : Int) := by omega
              have HEND : Hid ((⟨File.Cst.zero, (i : Int), 81⟩ : File.Got) = g) := by
                have h := HST3.out
                rw [if_pos (by rw [HN3.out]; exact h200)] at h; exact h
              have HB6 : Hid (Below w.heap.size w v6) := HBW4.out.trans (HB46.out.mono HBW4.out.size)
              go_wp2_with (refine wpList_store_g (by rfl) 26 (.tmp 2) (.tmp 59) (by rfl) w.heap.size #[Value.int .u64 0, Value.int .u64 0, Value.int .u64 0, Value.int .u64 0, Value.slice none 0 0] (by rfl) (by rfl) 26 #[Value.int .u64 0, Value.int .u64 0, Value.int .u64 0, Value.int .u64 0, Value.slice none 0 0] HZ6.out HI5z.out rfl (by simp [Value.oneCell']) ?_
                           intro we hwe hge hsze
                           have HWE := Lib.hid hwe
                           have HGE := Lib.hid hge
                           clear hwe hge hsze)
              refine bodyPost_ret (results_cell_row_tmp2 rfl _ _ w.heap.size 26 #[Value.int .u64 0, Value.int .u64 0, Value.int .u64 0, Value.int .u64 0, Value.slice none 0 0] (0, 0) _ (by rfl) HWE.out Tryz.underlying26 (by rfl) HI5z.out) rfl ?_
              exact got_zero HEND.out rfl (HB6.out.grown HGE.out HB6.out.size (fun k hk => by cases hk; exact Nat.le_refl _))
            · have h200i : ¬ (200 : Int) < (n3 : Int) := by omega
              have HEND : Hid (File.readA (i + 1) true s.base (ruls xs3) (ls.drop (i + 1)) = g) := by
                have h := HST3.out
                rw [if_neg (by rw [HN3.out]; exact h200), ← HRU3.out] at h; exact h
              go_wp2
              go_roundw
              case rel => exact ⟨i + 1, bb2, bo2, bc2, true, a3, n3, c3, xs3, s.base, by omega, rfl, rfl, rfl, by go_num, by omega, HSB6.out, HBSF.out.2, HRS3.out, HNIL3.out, HEND.out, HB46.out⟩
              case measure => simp [intOf]; omega

          · have HEND : Hid ((⟨File.Cst.zero, (i : Int), 80⟩ : File.Got) = g) := by
              have h := HST2.out
              rw [if_pos ⟨hbe, rfl⟩] at h; exact h
            clear HST2 hbe hbn HSTEP hb4l
            go_wp2_with (refine wpList_store_g (by rfl) 26 (.tmp 2) (.tmp 41) (by rfl) w.heap.size #[Value.int .u64 0, Value.int .u64 0, Value.int .u64 0, Value.int .u64 0, Value.slice none 0 0] (by rfl) (by rfl) 26 #[Value.int .u64 0, Value.int .u64 0, Value.int .u64 0, Value.int .u64 0, Value.slice none 0 0] (HZV _).out HI5z.out rfl (by simp [Value.oneCell']) ?_
                         intro we hwe hge hsze
                         have HWE := Lib.hid hwe
                         have HGE := Lib.hid hge
                         clear hwe hge hsze)
            refine bodyPost_ret (results_cell_row_tmp2 rfl _ _ w.heap.size 26 #[Value.int .u64 0, Value.int .u64 0, Value.int .u64 0, Value.int .u64 0, Value.slice none 0 0] (0, 0) _ (by rfl) HWE.out Tryz.underlying26 (by rfl) HI5z.out) rfl ?_
            exact got_zero HEND.out rfl ((HBVA _).out.grown HGE.out (HBVA _).out.size (fun k hk => by cases hk; exact Nat.le_refl _))
      · have hne : (s.e != 0) = true := by simpa using he
        have HEND : Hid ((⟨File.Cst.zero, (i : Int), s.e⟩ : File.Got) = g) := by
          have h := HSTEP.out
          rw [if_pos he] at h; exact h
        clear he hbn
        go_wp2_with (refine wpList_store_g (by rfl) 26 (.tmp 2) (.tmp 31) (by rfl) w.heap.size #[Value.int .u64 0, Value.int .u64 0, Value.int .u64 0, Value.int .u64 0, Value.slice none 0 0] (by rfl) (by rfl) 26 #[Value.int .u64 0, Value.int .u64 0, Value.int .u64 0, Value.int .u64 0, Value.slice none 0 0] (HZV _).out HI5z.out rfl (by simp [Value.oneCell']) ?_
                     intro we hwe hge hsze
                     have HWE := Lib.hid hwe
                     have HGE := Lib.hid hge
                     clear hwe hge hsze)
        refine bodyPost_ret (results_cell_row_tmp2 rfl _ _ w.heap.size 26 #[Value.int .u64 0, Value.int .u64 0, Value.int .u64 0, Value.int .u64 0, Value.slice none 0 0] (0, 0) _ (by rfl) HWE.out Tryz.underlying26 (by rfl) HI5z.out) rfl ?_
        exact got_zero HEND.out rfl ((HBVA _).out.grown HGE.out (HBVA _).out.size (fun k hk => by cases hk; exact Nat.le_refl _))
    · obtain rfl : M = i := by omega
      have HEND : Hid ((⟨⟨bs, ruls xs⟩, -1, 0⟩ : File.Got) = g) := by
        have h := HREAD.out
        rw [List.drop_eq_nil_of_le (by rw [HLM.out]; exact Nat.le_refl _)] at h; exact h
      have i8 : bs.length = 4 := HSB.out.1
      obtain ⟨b0, b1, b2, b3, rfl⟩ : ∃ b0 b1 b2 b3, bs = [b0, b1, b2, b3] := by
        match bs, i8 with
        | [x, y, z, t], _ => exact ⟨x, y, z, t, rfl⟩
      have HC4 : Hid (∀ k, k < 4 → wr.drew.cell? ⟨bb, bo + k, none⟩ = some (.int .u64 ([b0, b1, b2, b3].getD k 0))) := fun k hk => by
        obtain ⟨b, off, e, _, hc⟩ := HSB.out.at (by omega)
        simp only [Option.some.injEq, Addr.mk.injEq, and_true] at e
        obtain ⟨rfl, rfl⟩ := e
        exact hc k hk
      have HOFF : Hid (bb = w.heap.size → bo = 0) := fun e => by
        have h := HC4.out 3 (by omega)
        subst e
        rw [show wr.drew.cell? ⟨w.heap.size, bo + 3, none⟩ = wr.cell? ⟨w.heap.size, bo + 3, none⟩ from rfl] at h
        simp only [World.cell?, HZR.out] at h
        match bo, h with
        | 0, _ => rfl
        | 1, h => simp at h
        | bo + 2, h => simp at h
      have HC0 : Hid (wr.drew.heap[w.heap.size]? = some (.cells #[Value.int .u64 0, Value.int .u64 0, Value.int .u64 0, Value.int .u64 0, Value.slice none 0 0] 26 (0, 0))) := HZR.out
      have HI5 : Hid ((Tryz.prog.info? 26).map (·.size) = some (#[Value.int .u64 b0, Value.int .u64 b1, Value.int .u64 b2, Value.int .u64 b3, Value.slice a1 n1 c1]).size) := info_cost5
      clear i8
      go_wp2_with fail
      refine wp_region_told2 HMX.out 14 [(61, 61), (62, 62), (63, 63), (64, 64), (65, 65), (66, 66), (67, 67), (68, 68), (69, 69), (70, 70), (71, 71), (72, 72), (73, 73), (74, 74), (74, 74), (3, 3), (4, 4)]
        (fun (j : Nat) (v u : Value) (w0 : World) => match j with
          | 0 => v = .slice (some ⟨bb, bo, none⟩) 4 bc
          | 1 => v = .pointer (some ⟨bb, bo + 0, none⟩)
          | 2 => v = .int .u64 b0
          | 3 => v = .slice (some ⟨bb, bo, none⟩) 4 bc
          | 4 => v = .pointer (some ⟨bb, bo + 1, none⟩)
          | 5 => v = .int .u64 b1
          | 6 => v = .slice (some ⟨bb, bo, none⟩) 4 bc
          | 7 => v = .pointer (some ⟨bb, bo + 2, none⟩)
          | 8 => v = .int .u64 b2
          | 9 => v = .slice (some ⟨bb, bo, none⟩) 4 bc
          | 10 => v = .pointer (some ⟨bb, bo + 3, none⟩)
          | 11 => v = .int .u64 b3
          | 12 => v = .slice a1 n1 c1
          | 13 => v = .agg #[Value.int .u64 b0, Value.int .u64 b1, Value.int .u64 b2, Value.int .u64 b3, Value.slice a1 n1 c1]
          | 14 => w0.heap[w.heap.size]? = some (.cells #[Value.int .u64 b0, Value.int .u64 b1, Value.int .u64 b2, Value.int .u64 b3, Value.slice a1 n1 c1] 26 (0, 0))
          | 15 => v = .int .i64 (-1)
          | 16 => v = .int .i64 0
          | _ => True)
        (fun W => (wr).drew.grownBy W (some w.heap.size) ∧ (∃ cs, W.heap[w.heap.size]? = some (.cells cs 26 (0, 0)) ∧ cs.size = 5) ∧ ∀ k, k < 4 → W.cell? ⟨bb, bo + k, none⟩ = some (.int .u64 ([b0, b1, b2, b3].getD k 0))) (fun _ w0 w' => w0.grownBy w' (some w.heap.size) ∧ w'.heap[w.heap.size]? = some (.cells #[Value.int .u64 b0, Value.int .u64 b1, Value.int .u64 b2, Value.int .u64 b3, Value.slice a1 n1 c1] 26 (0, 0))) (by kernel_rfl) (by kernel_rfl) ⟨World.grownBy.refl _ _, ⟨_, HC0.out, rfl⟩, HC4.out⟩ (fun _ _ h1 h2 => ⟨h1.1.trans (h2.but _), by obtain ⟨cs, hc, hs⟩ := h1.2.1; exact ⟨cs, (h2.block _ (Array.getElem?_eq_some_iff.1 hc).1 (by simp)).trans hc, hs⟩, fun k hk => h2.cell (h1.2.2 k hk) (by intro e; cases e)⟩) (fun _ _ _ h1 h2 => ⟨h1.1.trans h2.1, ⟨_, h2.2, rfl⟩, fun k hk => base_keep HOFF.out h2.1 h2.2 (h1.2.2 k hk) hk⟩) ?_ ?_ ?_ ?_
      · intro j v u w0 w' h hg
        match j, h with
        | 0, h => exact h
        | 1, h => exact h
        | 2, h => exact h
        | 3, h => exact h
        | 4, h => exact h
        | 5, h => exact h
        | 6, h => exact h
        | 7, h => exact h
        | 8, h => exact h
        | 9, h => exact h
        | 10, h => exact h
        | 11, h => exact h
        | 12, h => exact h
        | 13, h => exact h
        | 14, h => exact (hg.block w.heap.size (Array.getElem?_eq_some_iff.1 h).1 (by simp)).trans h
        | 15, h => exact h
        | 16, h => exact h
        | j + 17, h => exact h
      · intro j v u a0 w0 w' hne h hr
        match j, hne, h with
        | 0, hne, h => exact h
        | 1, hne, h => exact h
        | 2, hne, h => exact h
        | 3, hne, h => exact h
        | 4, hne, h => exact h
        | 5, hne, h => exact h
        | 6, hne, h => exact h
        | 7, hne, h => exact h
        | 8, hne, h => exact h
        | 9, hne, h => exact h
        | 10, hne, h => exact h
        | 11, hne, h => exact h
        | 12, hne, h => exact h
        | 13, hne, h => exact h
        | 14, hne, h => exact absurd rfl hne
        | 15, hne, h => exact h
        | 16, hne, h => exact h
        | j + 17, _, h => exact h
      · intro i1 o ho a1' w1 hJ hw ht
        match i1, ho with
        | 0, ho =>
          obtain rfl := Option.some.inj ho
          exact StepsTo.move rfl (.tmp 6) (.inl rfl) ⟨(hw 6 (by kernel_rfl)), fun h => absurd h (by decide), fun _ => World.grownBy.refl _ _⟩
        | 1, ho =>
          obtain rfl := Option.some.inj ho
          exact StepsTo.of_run rfl (run_idxUo 0 (by omega) rfl (show a1'.eval (.tmp 61) = .slice (some ⟨bb, bo, none⟩) 4 bc from (ht 0 (by kernel_rfl)))) ⟨rfl, fun h => absurd h (by decide), fun _ => World.grownBy.refl _ _⟩
        | 2, ho =>
          obtain rfl := Option.some.inj ho
          exact steps_ldd (ldd_cost _) rfl (.tmp 62) rfl (ht 1 (by kernel_rfl)) (hJ.2.2 0 (by omega)) ⟨rfl, fun h => absurd h (by decide), fun _ => World.grownBy.refl _ _⟩
        | 3, ho =>
          obtain rfl := Option.some.inj ho
          exact StepsTo.move rfl (.tmp 6) (.inl rfl) ⟨(hw 6 (by kernel_rfl)), fun h => absurd h (by decide), fun _ => World.grownBy.refl _ _⟩
        | 4, ho =>
          obtain rfl := Option.some.inj ho
          exact StepsTo.of_run rfl (run_idxUo 1 (by omega) rfl (show a1'.eval (.tmp 64) = .slice (some ⟨bb, bo, none⟩) 4 bc from (ht 3 (by kernel_rfl)))) ⟨rfl, fun h => absurd h (by decide), fun _ => World.grownBy.refl _ _⟩
        | 5, ho =>
          obtain rfl := Option.some.inj ho
          exact steps_ldd (ldd_cost _) rfl (.tmp 65) rfl (ht 4 (by kernel_rfl)) (hJ.2.2 1 (by omega)) ⟨rfl, fun h => absurd h (by decide), fun _ => World.grownBy.refl _ _⟩
        | 6, ho =>
          obtain rfl := Option.some.inj ho
          exact StepsTo.move rfl (.tmp 6) (.inl rfl) ⟨(hw 6 (by kernel_rfl)), fun h => absurd h (by decide), fun _ => World.grownBy.refl _ _⟩
        | 7, ho =>
          obtain rfl := Option.some.inj ho
          exact StepsTo.of_run rfl (run_idxUo 2 (by omega) rfl (show a1'.eval (.tmp 67) = .slice (some ⟨bb, bo, none⟩) 4 bc from (ht 6 (by kernel_rfl)))) ⟨rfl, fun h => absurd h (by decide), fun _ => World.grownBy.refl _ _⟩
        | 8, ho =>
          obtain rfl := Option.some.inj ho
          exact steps_ldd (ldd_cost _) rfl (.tmp 68) rfl (ht 7 (by kernel_rfl)) (hJ.2.2 2 (by omega)) ⟨rfl, fun h => absurd h (by decide), fun _ => World.grownBy.refl _ _⟩
        | 9, ho =>
          obtain rfl := Option.some.inj ho
          exact StepsTo.move rfl (.tmp 6) (.inl rfl) ⟨(hw 6 (by kernel_rfl)), fun h => absurd h (by decide), fun _ => World.grownBy.refl _ _⟩
        | 10, ho =>
          obtain rfl := Option.some.inj ho
          exact StepsTo.of_run rfl (run_idxUo 3 (by omega) rfl (show a1'.eval (.tmp 70) = .slice (some ⟨bb, bo, none⟩) 4 bc from (ht 9 (by kernel_rfl)))) ⟨rfl, fun h => absurd h (by decide), fun _ => World.grownBy.refl _ _⟩
        | 11, ho =>
          obtain rfl := Option.some.inj ho
          exact steps_ldd (ldd_cost _) rfl (.tmp 71) rfl (ht 10 (by kernel_rfl)) (hJ.2.2 3 (by omega)) ⟨rfl, fun h => absurd h (by decide), fun _ => World.grownBy.refl _ _⟩
        | 12, ho =>
          obtain rfl := Option.some.inj ho
          exact StepsTo.move rfl (.tmp 8) (.inl rfl) ⟨(hw 8 (by kernel_rfl)), fun h => absurd h (by decide), fun _ => World.grownBy.refl _ _⟩
        | 13, ho =>
          obtain rfl := Option.some.inj ho
          exact StepsTo.of_run rfl (run_costs5 rfl (show a1'.eval (.tmp 63) = .int .u64 b0 from (ht 2 (by kernel_rfl))) (show a1'.eval (.tmp 66) = .int .u64 b1 from (ht 5 (by kernel_rfl))) (show a1'.eval (.tmp 69) = .int .u64 b2 from (ht 8 (by kernel_rfl))) (show a1'.eval (.tmp 72) = .int .u64 b3 from (ht 11 (by kernel_rfl))) (show a1'.eval (.tmp 73) = .slice a1 n1 c1 from (ht 12 (by kernel_rfl)))) ⟨rfl, fun h => absurd h (by decide), fun _ => World.grownBy.refl _ _⟩
        | 14, ho =>
          obtain rfl := Option.some.inj ho
          have e1 : a1'.eval (.tmp 2) = .pointer (some ⟨w.heap.size, 0, none⟩) := (hw 2 (by kernel_rfl))
          have e2 : a1'.eval (.tmp 74) = .agg #[Value.int .u64 b0, Value.int .u64 b1, Value.int .u64 b2, Value.int .u64 b3, Value.slice a1 n1 c1] := (ht 13 (by kernel_rfl))
          obtain ⟨cs0, hcs0, hcs5⟩ := hJ.2.1
          refine steps_store_g rfl 26 (.tmp 2) (.tmp 74) rfl e1 e2 hcs0 HI5.out hcs5 (by simp [Value.oneCell']) ?_
          intro w' hw' hg' hsz'
          exact ⟨hw', fun _ => ⟨hg', hw'⟩, fun h => absurd rfl h⟩
        | 15, ho =>
          obtain rfl := Option.some.inj ho
          exact StepsTo.of_run rfl (by simp only [execOp]; go_simp) ⟨rfl, fun h => absurd h (by decide), fun _ => World.grownBy.refl _ _⟩
        | 16, ho =>
          obtain rfl := Option.some.inj ho
          exact StepsTo.of_run rfl (by simp only [execOp]; go_simp) ⟨rfl, fun h => absurd h (by decide), fun _ => World.grownBy.refl _ _⟩
        | j1 + 17, ho => exact absurd (Array.getElem?_eq_some_iff.1 ho).1 (by simp)
      intro tm w9 hsz hJ hfr hto
      rw [act_lit2 tm (show tm.size = 75 from hsz)]
      simp only [List.range, List.range.loop, List.map_cons, List.map_nil]
      rw [hfr 0 (by kernel_rfl), hfr 1 (by kernel_rfl), hfr 2 (by kernel_rfl), hfr 5 (by kernel_rfl), hfr 6 (by kernel_rfl), hfr 7 (by kernel_rfl), hfr 8 (by kernel_rfl), hfr 9 (by kernel_rfl), hfr 10 (by kernel_rfl), hfr 11 (by kernel_rfl), hfr 12 (by kernel_rfl), hfr 13 (by kernel_rfl), hfr 14 (by kernel_rfl), hfr 15 (by kernel_rfl), hfr 16 (by kernel_rfl), hfr 17 (by kernel_rfl), hfr 18 (by kernel_rfl), hfr 19 (by kernel_rfl), hfr 20 (by kernel_rfl), hfr 21 (by kernel_rfl), hfr 22 (by kernel_rfl), hfr 23 (by kernel_rfl), hfr 24 (by kernel_rfl), hfr 25 (by kernel_rfl), hfr 26 (by kernel_rfl), hfr 27 (by kernel_rfl), hfr 28 (by kernel_rfl), hfr 29 (by kernel_rfl), hfr 30 (by kernel_rfl), hfr 31 (by kernel_rfl), hfr 32 (by kernel_rfl), hfr 33 (by kernel_rfl), hfr 34 (by kernel_rfl), hfr 35 (by kernel_rfl), hfr 36 (by kernel_rfl), hfr 37 (by kernel_rfl), hfr 38 (by kernel_rfl), hfr 39 (by kernel_rfl), hfr 40 (by kernel_rfl), hfr 41 (by kernel_rfl), hfr 42 (by kernel_rfl), hfr 43 (by kernel_rfl), hfr 44 (by kernel_rfl), hfr 45 (by kernel_rfl), hfr 46 (by kernel_rfl), hfr 47 (by kernel_rfl), hfr 48 (by kernel_rfl), hfr 49 (by kernel_rfl), hfr 50 (by kernel_rfl), hfr 51 (by kernel_rfl), hfr 52 (by kernel_rfl), hfr 53 (by kernel_rfl), hfr 54 (by kernel_rfl), hfr 55 (by kernel_rfl), hfr 56 (by kernel_rfl), hfr 57 (by kernel_rfl), hfr 58 (by kernel_rfl), hfr 59 (by kernel_rfl), hfr 60 (by kernel_rfl)]
      simp only [Array.getD_eq_getD_getElem?, List.getElem?_toArray, List.getElem?_cons_succ, List.getElem?_cons_zero, Option.getD_some]
      have t0 : (tm[61]?.getD undef) = .slice (some ⟨bb, bo, none⟩) 4 bc := by have h := hto 0 (by decide); simp only [Array.getD_eq_getD_getElem?] at h; exact h
      have t1 : (tm[62]?.getD undef) = .pointer (some ⟨bb, bo + 0, none⟩) := by have h := hto 1 (by decide); simp only [Array.getD_eq_getD_getElem?] at h; exact h
      have t2 : (tm[63]?.getD undef) = .int .u64 b0 := by have h := hto 2 (by decide); simp only [Array.getD_eq_getD_getElem?] at h; exact h
      have t3 : (tm[64]?.getD undef) = .slice (some ⟨bb, bo, none⟩) 4 bc := by have h := hto 3 (by decide); simp only [Array.getD_eq_getD_getElem?] at h; exact h
      have t4 : (tm[65]?.getD undef) = .pointer (some ⟨bb, bo + 1, none⟩) := by have h := hto 4 (by decide); simp only [Array.getD_eq_getD_getElem?] at h; exact h
      have t5 : (tm[66]?.getD undef) = .int .u64 b1 := by have h := hto 5 (by decide); simp only [Array.getD_eq_getD_getElem?] at h; exact h
      have t6 : (tm[67]?.getD undef) = .slice (some ⟨bb, bo, none⟩) 4 bc := by have h := hto 6 (by decide); simp only [Array.getD_eq_getD_getElem?] at h; exact h
      have t7 : (tm[68]?.getD undef) = .pointer (some ⟨bb, bo + 2, none⟩) := by have h := hto 7 (by decide); simp only [Array.getD_eq_getD_getElem?] at h; exact h
      have t8 : (tm[69]?.getD undef) = .int .u64 b2 := by have h := hto 8 (by decide); simp only [Array.getD_eq_getD_getElem?] at h; exact h
      have t9 : (tm[70]?.getD undef) = .slice (some ⟨bb, bo, none⟩) 4 bc := by have h := hto 9 (by decide); simp only [Array.getD_eq_getD_getElem?] at h; exact h
      have t10 : (tm[71]?.getD undef) = .pointer (some ⟨bb, bo + 3, none⟩) := by have h := hto 10 (by decide); simp only [Array.getD_eq_getD_getElem?] at h; exact h
      have t11 : (tm[72]?.getD undef) = .int .u64 b3 := by have h := hto 11 (by decide); simp only [Array.getD_eq_getD_getElem?] at h; exact h
      have t12 : (tm[73]?.getD undef) = .slice a1 n1 c1 := by have h := hto 12 (by decide); simp only [Array.getD_eq_getD_getElem?] at h; exact h
      have t13 : (tm[74]?.getD undef) = .agg #[Value.int .u64 b0, Value.int .u64 b1, Value.int .u64 b2, Value.int .u64 b3, Value.slice a1 n1 c1] := by have h := hto 13 (by decide); simp only [Array.getD_eq_getD_getElem?] at h; exact h
      have t14 : w9.heap[w.heap.size]? = some (.cells #[Value.int .u64 b0, Value.int .u64 b1, Value.int .u64 b2, Value.int .u64 b3, Value.slice a1 n1 c1] 26 (0, 0)) := by have h := hto 14 (by decide); simp only [Array.getD_eq_getD_getElem?] at h; exact h
      have t15 : (tm[3]?.getD undef) = .int .i64 (-1) := by have h := hto 15 (by decide); simp only [Array.getD_eq_getD_getElem?] at h; exact h
      have t16 : (tm[4]?.getD undef) = .int .i64 0 := by have h := hto 16 (by decide); simp only [Array.getD_eq_getD_getElem?] at h; exact h
      clear hto
      generalize tm[3]?.getD undef = y3 at *
      generalize tm[4]?.getD undef = y4 at *
      generalize tm[61]?.getD undef = y61 at *
      generalize tm[62]?.getD undef = y62 at *
      generalize tm[63]?.getD undef = y63 at *
      generalize tm[64]?.getD undef = y64 at *
      generalize tm[65]?.getD undef = y65 at *
      generalize tm[66]?.getD undef = y66 at *
      generalize tm[67]?.getD undef = y67 at *
      generalize tm[68]?.getD undef = y68 at *
      generalize tm[69]?.getD undef = y69 at *
      generalize tm[70]?.getD undef = y70 at *
      generalize tm[71]?.getD undef = y71 at *
      generalize tm[72]?.getD undef = y72 at *
      generalize tm[73]?.getD undef = y73 at *
      generalize tm[74]?.getD undef = y74 at *
      clear hfr hsz tm
      obtain rfl := t15
      obtain rfl := t16
      have HG9 : Hid (wr.grownBy w9 (some w.heap.size)) := by have h := hJ.1; exact ⟨h.os, h.tape, h.output, h.size, h.block⟩
      have HT14 := Lib.hid t14
      clear t0 t1 t2 t3 t4 t5 t6 t7 t8 t9 t10 t11 t12 t13 t14 hJ
      go_wp2
      refine bodyPost_ret (results_cell_row_tmp2 rfl _ _ w.heap.size 26 #[Value.int .u64 b0, Value.int .u64 b1, Value.int .u64 b2, Value.int .u64 b3, Value.slice a1 n1 c1] (0, 0) _ (by rfl) HT14.out Tryz.underlying26 (by rfl) HI5.out) rfl ?_
      rw [← HEND.out]
      exact ⟨⟨b0, b1, b2, b3, a1, n1, c1, xs⟩, rfl, rfl, ⟨rs_box HRX.out HG9.out HZR.out, HBB.out⟩, HNX.out, hn1, HBWR.out.grown HG9.out HBWR.out.size (fun k hk => by cases hk; exact Nat.le_refl _)⟩

end Go.Proofs.YtjmabjeaodojeaaGreat
