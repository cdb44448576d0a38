/- For every three numbers, SpecMany answers true, and turns nothing that was there. No condition. -/
import Derived.Test.YtdeicfdbjmpliaaRows
import Derived.Test.YtdeicfdbjmpliaaPackI
import Derived.WalkKit
import Derived.ChangeOld
import Derived.Below
import Derived.ProofKit
import Derived.OpenShut
import Derived.ShutString
namespace Go.Proofs.Ytdeicfdbjmpliaa.specMany
open Go.ChangeShapes Go.WideShapes Go.ChangeAt Go.RowKit
open Go.ChangeMaps (open_string shut_string)
set_option linter.unusedVariables false      -- a walk need not use every 'w<i>' (that an integer argument fits its kind)

theorem own : ownKnob Try.prog.godebug = none := by kernel_rfl

/-! ### STEP 1: THE WALK: the Go text returns true. 'Grown w w'': the world has at most new blocks (Derived/RowKit3.lean). Part the cases AHEAD of 'go_enter' where a test parts the walk; take each callee by a contract of your own. -/
set_option maxHeartbeats 6400000 in
set_option maxRecDepth 100000 in
theorem walk (a0 : Int) (a1 : Int) (a2 : Int) (w0 : (Lit.int .u8 a0).wf = true) (w1 : (Lit.int .u16 a1).wf = true) (w2 : (Lit.int .u64 a2).wf = true) (w : World) :
    Calls Try.prog 6 #[.int .u8 a0, .int .u16 a1, .int .u64 a2] w fun e w' => e = .returned (.bool true) ∧ Below w.heap.size w w' := by
  have hb0 := bounds_u8 w0
  have hb1 := bounds_u16 w1
  have hb2 := bounds_u64 w2
  obtain ⟨k, hk⟩ : ∃ k : Nat, a0 % 15 = (k : Int) := ⟨(a0 % 15).toNat, by omega⟩
  obtain ⟨f, hf⟩ : ∃ f : Nat, a1 % 5000 = (f : Int) := ⟨(a1 % 5000).toNat, by omega⟩
  obtain ⟨c, rfl⟩ : ∃ c : Nat, a2 = (c : Int) := ⟨a2.toNat, by omega⟩
  have hk14 : k ≤ 14 := by omega
  have hf5 : f < 5000 := by omega
  have HC64 : Hid (c < 18446744073709551616) := by show c < _; omega
  obtain ⟨B, hB⟩ : ∃ B : Int, 256 + (f : Int) = B := ⟨_, rfl⟩
  have HBB : Hid (256 ≤ B ∧ B < 5256) := ⟨by omega, by omega⟩
  have HI : Hid ((Try.prog.info? 32).map (·.size) = some 2) := info_spec
  have hmx : Try.prog.follows .mixedOrders = true := by kernel_rfl
  have HMX := Lib.hid hmx
  clear w0 w1 w2 hmx
  go_enter Try.func6, Try.ntmps6
  go_wp2_with fail
  refine (awake_any _).mono ?_
  rintro e v1 ⟨rfl, B1⟩
  have HB1 := Lib.hid B1
  clear B1
  go_wp2
  simp only [hk]
  go_loopw [9, 10] (fun ov ix wr => ∃ (i : Nat) (a' : Option Addr) (c' : Nat), i ≤ k ∧ ix = .int .i64 (i : Int) ∧ ov = .slice a' i c' ∧ Hid (wr.ownsRow v1.heap.size 3 1 (.slice a' i c') i (i64s (Spec.rowF B i))) ∧ Hid (Below v1.heap.size v1 wr)) (fun _ ix _ => k - (intOf ix).toNat)
  case atStart => exact ⟨0, none, 0, Nat.zero_le _, rfl, rfl, World.ownsRow_nil _ _ _ _, Below.refl _ _⟩
  case round =>
    obtain ⟨i, a', c', hi, rfl, rfl, HO, HB⟩ := hrel
    by_cases hlt : i < k
    · have hlti : (i : Int) < (k : Int) := by omega
      have hsz2 := HB.out.size
      have hwr := HBB.out
      have HWI : Hid (∀ z ∈ [B + (i : Int)], (Lit.int .i64 z).wf = true) := by
        intro z hz
        rw [List.mem_singleton.1 hz]
        exact WalkArith.wf_i64 (by omega)
      go_wp2_with (at_builtin; refine append_ints7 rfl (.tmp 26) (.tmp 33) (by rfl) v1.heap.size _ i (Spec.rowF B i) (by rfl) (HO.out.alloc _) ⟨wr.heap.size, 0, none⟩ 1 (B + i) (by rfl) (Sl.lay (k := .i64) [B + i] HWI.out (by unfold maxLen; simp) rfl rfl rfl) (i + 1) rfl (by omega) (by simp; omega) ?_
                   intro a8 c8 w8 hown8 hb8 hn8
                   have HO8 := Lib.hid hown8
                   have HB8 : Hid (Below v1.heap.size v1 w8) := (HB.out.alloc hsz2 _).trans hb8
                   clear hown8 hb8 hn8)
      go_roundw
      case rel =>
        refine ⟨i + 1, a8, c8, by omega, by go_num, rfl, ?_, HB8.out⟩
        show World.ownsRow _ _ _ _ _ _ _
        rw [Spec.rowF_next]; exact HO8.out
      case measure => simp [intOf]; omega
    · obtain rfl : i = k := by omega
      have HL : Hid (Sl .i64 wr a' i c' (Spec.rowF B i)) := Sl.of_owns (k := .i64) HO.out (fun z hz => by
        have h1 := Spec.rowF_mem hz
        have h2 := HBB.out
        exact WalkArith.wf_i64 (by omega)) (Spec.rowF_len i B)
      have HG : Hid (Utf.allGood (Spec.rowF B i) = true) := Spec.rowF_good HBB.out.1 (by have := HBB.out; omega)
      obtain ⟨so, hso⟩ : ∃ l, Utf.put (Spec.rowF B i) = l := ⟨_, rfl⟩
      obtain ⟨sn, hsn⟩ : ∃ m, so.length = m := ⟨_, rfl⟩
      have HSL1 : Hid (so.length ≤ 100) := by
        show so.length ≤ 100
        rw [← hso]
        have := Utf.put_length_le (Spec.rowF B i)
        rw [Spec.rowF_len] at this
        omega
      have HPU := Lib.hid hso
      have HSN := Lib.hid hsn
      obtain ⟨dg, hdg⟩ : ∃ l, Num.dig c = l := ⟨_, rfl⟩
      have HDL : Hid (dg.length ≤ 20) := by show dg.length ≤ 20; rw [← hdg]; exact Num.len_20 HC64.out
      have HDW : Hid (∀ z ∈ dg, (Lit.int .u8 z).wf = true) := by
        show ∀ z ∈ dg, (Lit.int .u8 z).wf = true
        rw [← hdg]
        exact Num.dig_wf c
      have HDG := Lib.hid hdg
      have HBr : Hid (Below w.heap.size w wr) := HB1.out.trans (HB.out.mono HB1.out.size)
      clear hso hsn hdg HO HB
      go_wp2_with fail
      refine (put_is a' i c' (Spec.rowF B i) so sn wr HL.out (by omega) HG.out HPU.out HSN.out).mono ?_
      rintro e v2 ⟨sg, sc, rfl, hsl, hb2'⟩
      have HB2 : Hid (Below w.heap.size w v2) := HBr.out.trans (hb2'.mono HBr.out.size)
      have HSO1 : Hid (Sl .u8 v2 (some ⟨sg, 0, none⟩) sn sc so) := hsl
      clear hsl hb2' HBr HL
      by_cases hk0 : i = 0
      · subst hk0
        go_wp2
        go_ret
        exact ⟨rfl, HB2.out⟩
      have hk0i : ¬ (i : Int) = 0 := by omega
      have hk0b : ((i : Int) == 0) = false := by simp; omega
      by_cases hcI : c = 18446744073709551615
      · subst hcI
        go_wp2
        go_ret
        exact ⟨rfl, HB2.out⟩
      have hcIi : ¬ (c : Int) = 18446744073709551615 := by omega
      have hcIb : ((c : Int) == 18446744073709551615) = false := by simp; omega
      have HCM : Hid (c < 18446744073709551615) := by have := HC64.out; show c < _; omega
      obtain ⟨LN1, hle1⟩ : ∃ l, [77, 65, 80, 32] ++ so ++ [32] ++ dg = l := ⟨_, rfl⟩
      have HLL1 : Hid (LN1.length ≤ 1000) := by
        show LN1.length ≤ 1000
        rw [← hle1]
        have h1 := HSL1.out
        have h2 := HDL.out
        simp only [List.length_append, List.length_cons, List.length_nil]
        omega
      have HLW1 : Hid (∀ z ∈ LN1, (Lit.int .u8 z).wf = true) := by
        show ∀ z ∈ LN1, (Lit.int .u8 z).wf = true
        rw [← hle1]
        intro z hz
        rcases List.mem_append.1 hz with hz | hz
        · rcases List.mem_append.1 hz with hz | hz
          · rcases List.mem_append.1 hz with hz | hz
            · exact (show ∀ z ∈ ([77, 65, 80, 32] : List Int), (Lit.int .u8 z).wf = true by decide) z hz
            · exact HSO1.out.2.2.2.1 z hz
          · exact (show ∀ z ∈ ([32] : List Int), (Lit.int .u8 z).wf = true by decide) z hz
        · exact HDW.out z hz
      obtain ⟨⟨E1, BS1, RL1⟩, hrd1⟩ : ∃ s, Spec.read LN1 = s := ⟨_, rfl⟩
      have HRD1 := Lib.hid hrd1
      have HSP1 : Hid ((⟨E1, BS1, RL1⟩ : Spec.Sp) = (if i ≤ 12 then ⟨0, [], Spec.mapsG (c : Int) (Spec.rowF B i)⟩ else Spec.Sp.no 60)) := by show _ = (if i ≤ 12 then ⟨0, [], Spec.mapsG (c : Int) (Spec.rowF B i)⟩ else Spec.Sp.no 60); rw [← hrd1, ← hle1]; exact (by rw [← HDG.out, ← HPU.out]; exact Spec.many_map (k := i) HBB.out.1 (by have := HBB.out; omega) (by omega) HCM.out)
      have HLE1 := Lib.hid hle1
      clear hle1 hrd1
      have HSL2 := HSL1
      have HSOx := HSO1
      have HSO2 := HSO1
      obtain ⟨LN2, hle2⟩ : ∃ l, [75, 69, 89, 32] ++ so ++ [32] ++ dg = l := ⟨_, rfl⟩
      have HLL2 : Hid (LN2.length ≤ 1000) := by
        show LN2.length ≤ 1000
        rw [← hle2]
        have h1 := HSL2.out
        have h2 := HDL.out
        simp only [List.length_append, List.length_cons, List.length_nil]
        omega
      have HLW2 : Hid (∀ z ∈ LN2, (Lit.int .u8 z).wf = true) := by
        show ∀ z ∈ LN2, (Lit.int .u8 z).wf = true
        rw [← hle2]
        intro z hz
        rcases List.mem_append.1 hz with hz | hz
        · rcases List.mem_append.1 hz with hz | hz
          · rcases List.mem_append.1 hz with hz | hz
            · exact (show ∀ z ∈ ([75, 69, 89, 32] : List Int), (Lit.int .u8 z).wf = true by decide) z hz
            · exact HSO2.out.2.2.2.1 z hz
          · exact (show ∀ z ∈ ([32] : List Int), (Lit.int .u8 z).wf = true by decide) z hz
        · exact HDW.out z hz
      obtain ⟨⟨E2, BS2, RL2⟩, hrd2⟩ : ∃ s, Spec.read LN2 = s := ⟨_, rfl⟩
      have HRD2 := Lib.hid hrd2
      have HSP2 : Hid ((⟨E2, BS2, RL2⟩ : Spec.Sp) = (if i ≤ 12 then ⟨0, [], Spec.keysG (c : Int) 0 0 (Spec.rowF B i)⟩ else Spec.Sp.no 60)) := by show _ = (if i ≤ 12 then ⟨0, [], Spec.keysG (c : Int) 0 0 (Spec.rowF B i)⟩ else Spec.Sp.no 60); rw [← hrd2, ← hle2]; exact (by rw [← HDG.out, ← HPU.out]; exact Spec.many_key (k := i) HBB.out.1 (by have := HBB.out; omega) (by omega) HCM.out)
      have HLE2 := Lib.hid hle2
      clear HSO2 hle2 hrd2
      go_wp2_with fail
      refine wp_region_told2 HMX.out 14 [(56, 56), (57, 57), (58, 58), (59, 59), (60, 60), (61, 61), (62, 62), (63, 63), (64, 64), (65, 65), (55, 55), (66, 66), (67, 67), (13, 13), (13, 13), (14, 14)]
        (fun (j : Nat) (v u : Value) (w0 : World) => match j with
          | 0 => v = .slice (some ⟨sg, 0, none⟩) sn sc
          | 1 => v = .string (strOfNums so)
          | 2 => v = .string (strOfNums ([77, 65, 80, 32] ++ so))
          | 3 => v = .string (strOfNums (([77, 65, 80, 32] ++ so) ++ [32]))
          | 4 => v = .int .u64 (c : Int)
          | 5 => Str7 w0 dg v
          | 6 => v = .string (strOfNums dg)
          | 7 => v = .string (strOfNums LN1)
          | 8 => Str7 w0 LN1 v
          | 9 => Told7 w0 E1 RL1 v
          | 10 => Told7 w0 E1 RL1 v
          | 11 => Agg7 w0 RL1 v
          | 12 => v = .int .i64 E1
          | 13 => Box7 w0 v2.heap.size v
          | 14 => Full7 w0 v2.heap.size RL1 v
          | 15 => v = .int .i64 E1
          | _ => True)
        (fun W => (v2).drew.grownBy W none) (fun _ w0 w' => Turn7 v2.heap.size w0 w') (by kernel_rfl) (by kernel_rfl) (World.grownBy.refl _ _) (fun _ _ h1 h2 => h1.trans h2) (fun _ _ _ h1 h2 => fresh_turn h1 h2) ?_ ?_ ?_ ?_
      · intro j v u w0 w' h hg
        match j, h with
        | 0, h => exact h
        | 1, h => exact h
        | 2, h => exact h
        | 3, h => exact h
        | 4, h => exact h
        | 5, h => exact h.kept hg
        | 6, h => exact h
        | 7, h => exact h
        | 8, h => exact h.kept hg
        | 9, h => exact h.kept hg
        | 10, h => exact h.kept hg
        | 11, h => exact h.kept hg
        | 12, h => exact h
        | 13, h => exact h.kept hg
        | 14, h => exact h.kept hg
        | 15, h => exact h
        | j + 16, h => exact h
      · intro j v u a0 w0 w' hne h hr
        match j, hne, h with
        | 0, hne, h => exact h
        | 1, hne, h => exact h
        | 2, hne, h => exact h
        | 3, hne, h => exact h
        | 4, hne, h => exact h
        | 5, hne, h => exact h.turned hr
        | 6, hne, h => exact h
        | 7, hne, h => exact h
        | 8, hne, h => exact h.turned hr
        | 9, hne, h => exact h.turned hr
        | 10, hne, h => exact h.turned hr
        | 11, hne, h => exact h.turned hr
        | 12, hne, h => exact h
        | 13, hne, h => exact h.turned hr
        | 14, hne, h => exact absurd rfl hne
        | 15, hne, h => exact h
        | j + 16, _, h => exact h
      · intro i1 o ho a1 w1 hJ hw ht
        match i1, ho with
        | 0, ho =>
          obtain rfl := Option.some.inj ho
          exact StepsTo.move rfl (.tmp 11) (.inl rfl) ⟨(hw 11 (by kernel_rfl)), fun h => absurd h (by decide), fun _ => World.grownBy.refl _ _⟩
        | 1, ho =>
          obtain rfl := Option.some.inj ho
          exact StepsTo.of_run rfl (run_str rfl (show a1.eval (.tmp 56) = .slice (some ⟨sg, 0, none⟩) sn sc from (ht 0 (by kernel_rfl))) (HSO1.out.below (grown_below7 hJ) (Nat.le_refl _))) ⟨rfl, fun h => absurd h (by decide), fun _ => World.grownBy.refl _ _⟩
        | 2, ho =>
          obtain rfl := Option.some.inj ho
          exact StepsTo.of_run rfl (run_addS rfl (show a1.eval (.const (.string ⟨#[77, 65, 80, 32]⟩)) = .string (strOfNums [77, 65, 80, 32]) from rfl) (show a1.eval (.tmp 57) = .string (strOfNums so) from (ht 1 (by kernel_rfl))) (by simp only [str_size]; have := HSL1.out; have := HDL.out; simp only [List.length_append, List.length_cons, List.length_nil]; omega)) ⟨congrArg Value.string (str_app _ _), fun h => absurd h (by decide), fun _ => World.grownBy.refl _ _⟩
        | 3, ho =>
          obtain rfl := Option.some.inj ho
          exact StepsTo.of_run rfl (run_addS rfl (show a1.eval (.tmp 58) = .string (strOfNums ([77, 65, 80, 32] ++ so)) from (ht 2 (by kernel_rfl))) (show a1.eval (.const (.string ⟨#[32]⟩)) = .string (strOfNums [32]) from rfl) (by simp only [str_size]; have := HSL1.out; have := HDL.out; simp only [List.length_append, List.length_cons, List.length_nil]; omega)) ⟨congrArg Value.string (str_app _ _), fun h => absurd h (by decide), fun _ => World.grownBy.refl _ _⟩
        | 4, ho =>
          obtain rfl := Option.some.inj ho
          exact StepsTo.move rfl (.tmp 2) (.inl rfl) ⟨(hw 2 (by kernel_rfl)), fun h => absurd h (by decide), fun _ => World.grownBy.refl _ _⟩
        | 5, ho =>
          obtain rfl := Option.some.inj ho
          refine StepsTo.enter rfl _ _ (run_numWrite rfl (show a1.eval (.tmp 60) = .int .u64 (c : Int) from (ht 4 (by kernel_rfl)))) (write_any c HC64.out w1) (fun e w' h => ?_)
          obtain ⟨a', n', c', rfl, hn, hs, hnil, hb⟩ := h
          rw [HDG.out] at hn hs
          subst hn
          exact ⟨_, rfl, ⟨a', c', rfl, Sl.of_owns (k := .u8) hs HDW.out rfl, hnil⟩, fun h => absurd h (by decide), fun _ => below_grew7 hb⟩
        | 6, ho =>
          obtain rfl := Option.some.inj ho
          obtain ⟨p, d, h1, h2, _⟩ := ht 5 (by kernel_rfl)
          exact StepsTo.of_run rfl (run_str rfl (show a1.eval (.tmp 61) = .slice p dg.length d from h1) h2) ⟨rfl, fun h => absurd h (by decide), fun _ => World.grownBy.refl _ _⟩
        | 7, ho =>
          obtain rfl := Option.some.inj ho
          exact StepsTo.of_run rfl (run_addS rfl (show a1.eval (.tmp 59) = .string (strOfNums (([77, 65, 80, 32] ++ so) ++ [32])) from (ht 3 (by kernel_rfl))) (show a1.eval (.tmp 62) = .string (strOfNums dg) from (ht 6 (by kernel_rfl))) (by simp only [str_size]; have := HSL1.out; have := HDL.out; simp only [List.length_append, List.length_cons, List.length_nil]; omega)) ⟨congrArg Value.string ((str_app _ _).trans (congrArg strOfNums HLE1.out)), fun h => absurd h (by decide), fun _ => World.grownBy.refl _ _⟩
        | 8, ho =>
          obtain rfl := Option.some.inj ho
          exact steps_conv_back HLW1.out (by have := HLL1.out; omega) rfl rfl (show a1.eval (.tmp 63) = .string (strOfNums LN1) from (ht 7 (by kernel_rfl))) (fun d w' hs hg => ⟨⟨_, d, rfl, hs, fun e => by cases e⟩, fun h => absurd h (by decide), fun _ => hg⟩)
        | 9, ho =>
          obtain rfl := Option.some.inj ho
          obtain ⟨p, d, h1, h2, h3⟩ := ht 8 (by kernel_rfl)
          refine StepsTo.enter rfl _ _ (run_read7 rfl (show a1.eval (.tmp 64) = .slice p LN1.length d from h1)) (read7_is p LN1.length d LN1 ⟨E1, BS1, RL1⟩ w1 h2 h3 HLL1.out HRD1.out) (fun e w' h => ?_)
          obtain ⟨ba, bn, bc, ra, rn, rc, ys, rfl, _, _, hrs, hru, _, hb⟩ := h
          exact ⟨_, rfl, ⟨ba, bn, bc, ra, rn, rc, ys, rfl, hrs, hru⟩, fun h => absurd h (by decide), fun _ => below_grew7 hb⟩
        | 10, ho =>
          obtain rfl := Option.some.inj ho
          exact StepsTo.move rfl (.tmp 65) (.inl rfl) ⟨(ht 9 (by kernel_rfl)), fun h => absurd h (by decide), fun _ => World.grownBy.refl _ _⟩
        | 11, ho =>
          obtain rfl := Option.some.inj ho
          obtain ⟨ba, bn, bc, ra, rn, rc, ys, h1, hrs, hru⟩ := ht 10 (by kernel_rfl)
          exact StepsTo.of_run rfl (run_extract0 rfl (show a1.eval (.tmp 55) = .tuple #[.agg #[.slice ba bn bc, .slice ra rn rc], .int .i64 E1] from h1)) ⟨⟨ba, bn, bc, ra, rn, rc, ys, rfl, hrs, hru⟩, fun h => absurd h (by decide), fun _ => World.grownBy.refl _ _⟩
        | 12, ho =>
          obtain rfl := Option.some.inj ho
          obtain ⟨ba, bn, bc, ra, rn, rc, ys, h1, hrs, hru⟩ := ht 10 (by kernel_rfl)
          exact StepsTo.of_run rfl (run_extract1 rfl (show a1.eval (.tmp 55) = .tuple #[.agg #[.slice ba bn bc, .slice ra rn rc], .int .i64 E1] from h1)) ⟨rfl, fun h => absurd h (by decide), fun _ => World.grownBy.refl _ _⟩
        | 13, ho =>
          obtain rfl := Option.some.inj ho
          exact StepsTo.of_run (v := .pointer (some ⟨w1.heap.size, 0, none⟩)) (w' := w1.alloc (.cells #[.slice none 0 0, .slice none 0 0] 32)) rfl (by simp only [execOp]; go_simp) ⟨⟨_, _, _, _, _, _, _, rfl, hJ.size, heap_alloc_new _ _⟩, fun h => absurd h (by decide), fun _ => World.grownBy_alloc _ _ _⟩
        | 14, ho =>
          obtain rfl := Option.some.inj ho
          obtain ⟨g, x, n, d, y, m, q, h1, h2, h3⟩ := ht 13 (by kernel_rfl)
          obtain ⟨ba, bn, bc, ra, rn, rc, ys, h4, hrs, hru⟩ := ht 11 (by kernel_rfl)
          have h1' : a1.eval (.tmp 13) = .pointer (some ⟨g, 0, none⟩) := h1
          have h4' : a1.eval (.tmp 66) = .agg #[.slice ba bn bc, .slice ra rn rc] := h4
          refine steps_store_g rfl 32 (.tmp 13) (.tmp 66) rfl h1' h4' h3 HI.out rfl (spec_cells _ _ _ _ _ _) ?_
          intro w' hw' hg' hsz'
          exact ⟨⟨g, ba, bn, bc, ra, rn, rc, ys, h1', h2, hw', hrs.box h3 hg', hru⟩, fun _ => ⟨g, _, _, _, _, _, _, _, _, _, _, _, _, h2, h3, hg', hw'⟩, fun h => absurd rfl h⟩
        | 15, ho =>
          obtain rfl := Option.some.inj ho
          exact StepsTo.move rfl (.tmp 67) (.inr rfl) ⟨(ht 12 (by kernel_rfl)), fun h => absurd h (by decide), fun _ => World.grownBy.refl _ _⟩
        | j1 + 16, ho => exact absurd (Array.getElem?_eq_some_iff.1 ho).1 (by simp)
      intro tm v3 hsz hJ hfr hto
      rw [act_lit2 tm (show tm.size = 141 from hsz)]
      simp only [List.range, List.range.loop, List.map_cons, List.map_nil]
      rw [hfr 0 (by kernel_rfl), hfr 1 (by kernel_rfl), hfr 2 (by kernel_rfl), hfr 3 (by kernel_rfl), hfr 4 (by kernel_rfl), hfr 5 (by kernel_rfl), hfr 6 (by kernel_rfl), hfr 7 (by kernel_rfl), hfr 8 (by kernel_rfl), hfr 9 (by kernel_rfl), hfr 10 (by kernel_rfl), hfr 11 (by kernel_rfl), hfr 12 (by kernel_rfl), hfr 15 (by kernel_rfl), hfr 16 (by kernel_rfl), hfr 17 (by kernel_rfl), hfr 18 (by kernel_rfl), hfr 19 (by kernel_rfl), hfr 20 (by kernel_rfl), hfr 21 (by kernel_rfl), hfr 22 (by kernel_rfl), hfr 23 (by kernel_rfl), hfr 24 (by kernel_rfl), hfr 25 (by kernel_rfl), hfr 26 (by kernel_rfl), hfr 27 (by kernel_rfl), hfr 28 (by kernel_rfl), hfr 29 (by kernel_rfl), hfr 30 (by kernel_rfl), hfr 31 (by kernel_rfl), hfr 32 (by kernel_rfl), hfr 33 (by kernel_rfl), hfr 34 (by kernel_rfl), hfr 35 (by kernel_rfl), hfr 36 (by kernel_rfl), hfr 37 (by kernel_rfl), hfr 38 (by kernel_rfl), hfr 39 (by kernel_rfl), hfr 40 (by kernel_rfl), hfr 41 (by kernel_rfl), hfr 42 (by kernel_rfl), hfr 43 (by kernel_rfl), hfr 44 (by kernel_rfl), hfr 45 (by kernel_rfl), hfr 46 (by kernel_rfl), hfr 47 (by kernel_rfl), hfr 48 (by kernel_rfl), hfr 49 (by kernel_rfl), hfr 50 (by kernel_rfl), hfr 51 (by kernel_rfl), hfr 52 (by kernel_rfl), hfr 53 (by kernel_rfl), hfr 54 (by kernel_rfl), hfr 68 (by kernel_rfl), hfr 69 (by kernel_rfl), hfr 70 (by kernel_rfl), hfr 71 (by kernel_rfl), hfr 72 (by kernel_rfl), hfr 73 (by kernel_rfl), hfr 74 (by kernel_rfl), hfr 75 (by kernel_rfl), hfr 76 (by kernel_rfl), hfr 77 (by kernel_rfl), hfr 78 (by kernel_rfl), hfr 79 (by kernel_rfl), hfr 80 (by kernel_rfl), hfr 81 (by kernel_rfl), hfr 82 (by kernel_rfl), hfr 83 (by kernel_rfl), hfr 84 (by kernel_rfl), hfr 85 (by kernel_rfl), hfr 86 (by kernel_rfl), hfr 87 (by kernel_rfl), hfr 88 (by kernel_rfl), hfr 89 (by kernel_rfl), hfr 90 (by kernel_rfl), hfr 91 (by kernel_rfl), hfr 92 (by kernel_rfl), hfr 93 (by kernel_rfl), hfr 94 (by kernel_rfl), hfr 95 (by kernel_rfl), hfr 96 (by kernel_rfl), hfr 97 (by kernel_rfl), hfr 98 (by kernel_rfl), hfr 99 (by kernel_rfl), hfr 100 (by kernel_rfl), hfr 101 (by kernel_rfl), hfr 102 (by kernel_rfl), hfr 103 (by kernel_rfl), hfr 104 (by kernel_rfl), hfr 105 (by kernel_rfl), hfr 106 (by kernel_rfl), hfr 107 (by kernel_rfl), hfr 108 (by kernel_rfl), hfr 109 (by kernel_rfl), hfr 110 (by kernel_rfl), hfr 111 (by kernel_rfl), hfr 112 (by kernel_rfl), hfr 113 (by kernel_rfl), hfr 114 (by kernel_rfl), hfr 115 (by kernel_rfl), hfr 116 (by kernel_rfl), hfr 117 (by kernel_rfl), hfr 118 (by kernel_rfl), hfr 119 (by kernel_rfl), hfr 120 (by kernel_rfl), hfr 121 (by kernel_rfl), hfr 122 (by kernel_rfl), hfr 123 (by kernel_rfl), hfr 124 (by kernel_rfl), hfr 125 (by kernel_rfl), hfr 126 (by kernel_rfl), hfr 127 (by kernel_rfl), hfr 128 (by kernel_rfl), hfr 129 (by kernel_rfl), hfr 130 (by kernel_rfl), hfr 131 (by kernel_rfl), hfr 132 (by kernel_rfl), hfr 133 (by kernel_rfl), hfr 134 (by kernel_rfl), hfr 135 (by kernel_rfl), hfr 136 (by kernel_rfl), hfr 137 (by kernel_rfl), hfr 138 (by kernel_rfl), hfr 139 (by kernel_rfl), hfr 140 (by kernel_rfl)]
      simp only [Array.getD_eq_getD_getElem?, List.getElem?_toArray, List.getElem?_cons_succ, List.getElem?_cons_zero, Option.getD_some]
      have t0 : (tm[56]?.getD undef) = .slice (some ⟨sg, 0, none⟩) sn sc := by have h := hto 0 (by decide); simp only [Array.getD_eq_getD_getElem?] at h; exact h
      have t1 : (tm[57]?.getD undef) = .string (strOfNums so) := by have h := hto 1 (by decide); simp only [Array.getD_eq_getD_getElem?] at h; exact h
      have t2 : (tm[58]?.getD undef) = .string (strOfNums ([77, 65, 80, 32] ++ so)) := by have h := hto 2 (by decide); simp only [Array.getD_eq_getD_getElem?] at h; exact h
      have t3 : (tm[59]?.getD undef) = .string (strOfNums (([77, 65, 80, 32] ++ so) ++ [32])) := by have h := hto 3 (by decide); simp only [Array.getD_eq_getD_getElem?] at h; exact h
      have t4 : (tm[60]?.getD undef) = .int .u64 (c : Int) := by have h := hto 4 (by decide); simp only [Array.getD_eq_getD_getElem?] at h; exact h
      have t5 : Str7 v3 dg (tm[61]?.getD undef) := by have h := hto 5 (by decide); simp only [Array.getD_eq_getD_getElem?] at h; exact h
      have t6 : (tm[62]?.getD undef) = .string (strOfNums dg) := by have h := hto 6 (by decide); simp only [Array.getD_eq_getD_getElem?] at h; exact h
      have t7 : (tm[63]?.getD undef) = .string (strOfNums LN1) := by have h := hto 7 (by decide); simp only [Array.getD_eq_getD_getElem?] at h; exact h
      have t8 : Str7 v3 LN1 (tm[64]?.getD undef) := by have h := hto 8 (by decide); simp only [Array.getD_eq_getD_getElem?] at h; exact h
      have t9 : Told7 v3 E1 RL1 (tm[65]?.getD undef) := by have h := hto 9 (by decide); simp only [Array.getD_eq_getD_getElem?] at h; exact h
      have t10 : Told7 v3 E1 RL1 (tm[55]?.getD undef) := by have h := hto 10 (by decide); simp only [Array.getD_eq_getD_getElem?] at h; exact h
      have t11 : Agg7 v3 RL1 (tm[66]?.getD undef) := by have h := hto 11 (by decide); simp only [Array.getD_eq_getD_getElem?] at h; exact h
      have t12 : (tm[67]?.getD undef) = .int .i64 E1 := by have h := hto 12 (by decide); simp only [Array.getD_eq_getD_getElem?] at h; exact h
      have t13 : Box7 v3 v2.heap.size (tm[13]?.getD undef) := by have h := hto 13 (by decide); simp only [Array.getD_eq_getD_getElem?] at h; exact h
      have t14 : Full7 v3 v2.heap.size RL1 (tm[13]?.getD undef) := by have h := hto 14 (by decide); simp only [Array.getD_eq_getD_getElem?] at h; exact h
      have t15 : (tm[14]?.getD undef) = .int .i64 E1 := by have h := hto 15 (by decide); simp only [Array.getD_eq_getD_getElem?] at h; exact h
      clear hto
      generalize tm[13]?.getD undef = y13 at *
      generalize tm[14]?.getD undef = y14 at *
      generalize tm[55]?.getD undef = y55 at *
      generalize tm[56]?.getD undef = y56 at *
      generalize tm[57]?.getD undef = y57 at *
      generalize tm[58]?.getD undef = y58 at *
      generalize tm[59]?.getD undef = y59 at *
      generalize tm[60]?.getD undef = y60 at *
      generalize tm[61]?.getD undef = y61 at *
      generalize tm[62]?.getD undef = y62 at *
      generalize tm[63]?.getD undef = y63 at *
      generalize tm[64]?.getD undef = y64 at *
      generalize tm[65]?.getD undef = y65 at *
      generalize tm[66]?.getD undef = y66 at *
      generalize tm[67]?.getD undef = y67 at *
      clear hfr hsz tm
      obtain rfl := t15
      obtain ⟨g1, ba1, bn1, bc1, ra1, rn1, rc1, ys1, rfl, hg1, hx1, hr1, hu1⟩ := t14
      have HB3 : Hid (Below w.heap.size w v3) := HB2.out.trans ((grown_below7 hJ).mono HB2.out.size)
      have HX1 := Lib.hid hx1
      have HR1 := Lib.hid hr1
      have HU1 := Lib.hid hu1
      have HSO2 : Hid (Sl .u8 v3 (some ⟨sg, 0, none⟩) sn sc so) := HSO1.out.below (grown_below7 hJ) (Nat.le_refl _)
      clear hg1 hx1 hr1 hu1 hJ HSO1 HSOx HLL1 HLW1 HRD1 HLE1 t0 t1 t2 t3 t4 t5 t6 t7 t8 t9 t10 t11 t12 t13
      go_wp2_with fail
      refine wp_region_told2 HMX.out 14 [(69, 69), (70, 70), (71, 71), (72, 72), (73, 73), (74, 74), (75, 75), (76, 76), (77, 77), (78, 78), (68, 68), (79, 79), (80, 80), (15, 15), (15, 15), (16, 16)]
        (fun (j : Nat) (v u : Value) (w0 : World) => match j with
          | 0 => v = .slice (some ⟨sg, 0, none⟩) sn sc
          | 1 => v = .string (strOfNums so)
          | 2 => v = .string (strOfNums ([75, 69, 89, 32] ++ so))
          | 3 => v = .string (strOfNums (([75, 69, 89, 32] ++ so) ++ [32]))
          | 4 => v = .int .u64 (c : Int)
          | 5 => Str7 w0 dg v
          | 6 => v = .string (strOfNums dg)
          | 7 => v = .string (strOfNums LN2)
          | 8 => Str7 w0 LN2 v
          | 9 => Told7 w0 E2 RL2 v
          | 10 => Told7 w0 E2 RL2 v
          | 11 => Agg7 w0 RL2 v
          | 12 => v = .int .i64 E2
          | 13 => Box7 w0 v3.heap.size v
          | 14 => Full7 w0 v3.heap.size RL2 v
          | 15 => v = .int .i64 E2
          | _ => True)
        (fun W => (v3).drew.grownBy W none) (fun _ w0 w' => Turn7 v3.heap.size w0 w') (by kernel_rfl) (by kernel_rfl) (World.grownBy.refl _ _) (fun _ _ h1 h2 => h1.trans h2) (fun _ _ _ h1 h2 => fresh_turn h1 h2) ?_ ?_ ?_ ?_
      · intro j v u w0 w' h hg
        match j, h with
        | 0, h => exact h
        | 1, h => exact h
        | 2, h => exact h
        | 3, h => exact h
        | 4, h => exact h
        | 5, h => exact h.kept hg
        | 6, h => exact h
        | 7, h => exact h
        | 8, h => exact h.kept hg
        | 9, h => exact h.kept hg
        | 10, h => exact h.kept hg
        | 11, h => exact h.kept hg
        | 12, h => exact h
        | 13, h => exact h.kept hg
        | 14, h => exact h.kept hg
        | 15, h => exact h
        | j + 16, h => exact h
      · intro j v u a0 w0 w' hne h hr
        match j, hne, h with
        | 0, hne, h => exact h
        | 1, hne, h => exact h
        | 2, hne, h => exact h
        | 3, hne, h => exact h
        | 4, hne, h => exact h
        | 5, hne, h => exact h.turned hr
        | 6, hne, h => exact h
        | 7, hne, h => exact h
        | 8, hne, h => exact h.turned hr
        | 9, hne, h => exact h.turned hr
        | 10, hne, h => exact h.turned hr
        | 11, hne, h => exact h.turned hr
        | 12, hne, h => exact h
        | 13, hne, h => exact h.turned hr
        | 14, hne, h => exact absurd rfl hne
        | 15, hne, h => exact h
        | j + 16, _, h => exact h
      · intro i1 o ho a1 w1 hJ hw ht
        match i1, ho with
        | 0, ho =>
          obtain rfl := Option.some.inj ho
          exact StepsTo.move rfl (.tmp 11) (.inl rfl) ⟨(hw 11 (by kernel_rfl)), fun h => absurd h (by decide), fun _ => World.grownBy.refl _ _⟩
        | 1, ho =>
          obtain rfl := Option.some.inj ho
          exact StepsTo.of_run rfl (run_str rfl (show a1.eval (.tmp 69) = .slice (some ⟨sg, 0, none⟩) sn sc from (ht 0 (by kernel_rfl))) (HSO2.out.below (grown_below7 hJ) (Nat.le_refl _))) ⟨rfl, fun h => absurd h (by decide), fun _ => World.grownBy.refl _ _⟩
        | 2, ho =>
          obtain rfl := Option.some.inj ho
          exact StepsTo.of_run rfl (run_addS rfl (show a1.eval (.const (.string ⟨#[75, 69, 89, 32]⟩)) = .string (strOfNums [75, 69, 89, 32]) from rfl) (show a1.eval (.tmp 70) = .string (strOfNums so) from (ht 1 (by kernel_rfl))) (by simp only [str_size]; have := HSL2.out; have := HDL.out; simp only [List.length_append, List.length_cons, List.length_nil]; omega)) ⟨congrArg Value.string (str_app _ _), fun h => absurd h (by decide), fun _ => World.grownBy.refl _ _⟩
        | 3, ho =>
          obtain rfl := Option.some.inj ho
          exact StepsTo.of_run rfl (run_addS rfl (show a1.eval (.tmp 71) = .string (strOfNums ([75, 69, 89, 32] ++ so)) from (ht 2 (by kernel_rfl))) (show a1.eval (.const (.string ⟨#[32]⟩)) = .string (strOfNums [32]) from rfl) (by simp only [str_size]; have := HSL2.out; have := HDL.out; simp only [List.length_append, List.length_cons, List.length_nil]; omega)) ⟨congrArg Value.string (str_app _ _), fun h => absurd h (by decide), fun _ => World.grownBy.refl _ _⟩
        | 4, ho =>
          obtain rfl := Option.some.inj ho
          exact StepsTo.move rfl (.tmp 2) (.inl rfl) ⟨(hw 2 (by kernel_rfl)), fun h => absurd h (by decide), fun _ => World.grownBy.refl _ _⟩
        | 5, ho =>
          obtain rfl := Option.some.inj ho
          refine StepsTo.enter rfl _ _ (run_numWrite rfl (show a1.eval (.tmp 73) = .int .u64 (c : Int) from (ht 4 (by kernel_rfl)))) (write_any c HC64.out w1) (fun e w' h => ?_)
          obtain ⟨a', n', c', rfl, hn, hs, hnil, hb⟩ := h
          rw [HDG.out] at hn hs
          subst hn
          exact ⟨_, rfl, ⟨a', c', rfl, Sl.of_owns (k := .u8) hs HDW.out rfl, hnil⟩, fun h => absurd h (by decide), fun _ => below_grew7 hb⟩
        | 6, ho =>
          obtain rfl := Option.some.inj ho
          obtain ⟨p, d, h1, h2, _⟩ := ht 5 (by kernel_rfl)
          exact StepsTo.of_run rfl (run_str rfl (show a1.eval (.tmp 74) = .slice p dg.length d from h1) h2) ⟨rfl, fun h => absurd h (by decide), fun _ => World.grownBy.refl _ _⟩
        | 7, ho =>
          obtain rfl := Option.some.inj ho
          exact StepsTo.of_run rfl (run_addS rfl (show a1.eval (.tmp 72) = .string (strOfNums (([75, 69, 89, 32] ++ so) ++ [32])) from (ht 3 (by kernel_rfl))) (show a1.eval (.tmp 75) = .string (strOfNums dg) from (ht 6 (by kernel_rfl))) (by simp only [str_size]; have := HSL2.out; have := HDL.out; simp only [List.length_append, List.length_cons, List.length_nil]; omega)) ⟨congrArg Value.string ((str_app _ _).trans (congrArg strOfNums HLE2.out)), fun h => absurd h (by decide), fun _ => World.grownBy.refl _ _⟩
        | 8, ho =>
          obtain rfl := Option.some.inj ho
          exact steps_conv_back HLW2.out (by have := HLL2.out; omega) rfl rfl (show a1.eval (.tmp 76) = .string (strOfNums LN2) from (ht 7 (by kernel_rfl))) (fun d w' hs hg => ⟨⟨_, d, rfl, hs, fun e => by cases e⟩, fun h => absurd h (by decide), fun _ => hg⟩)
        | 9, ho =>
          obtain rfl := Option.some.inj ho
          obtain ⟨p, d, h1, h2, h3⟩ := ht 8 (by kernel_rfl)
          refine StepsTo.enter rfl _ _ (run_read7 rfl (show a1.eval (.tmp 77) = .slice p LN2.length d from h1)) (read7_is p LN2.length d LN2 ⟨E2, BS2, RL2⟩ w1 h2 h3 HLL2.out HRD2.out) (fun e w' h => ?_)
          obtain ⟨ba, bn, bc, ra, rn, rc, ys, rfl, _, _, hrs, hru, _, hb⟩ := h
          exact ⟨_, rfl, ⟨ba, bn, bc, ra, rn, rc, ys, rfl, hrs, hru⟩, fun h => absurd h (by decide), fun _ => below_grew7 hb⟩
        | 10, ho =>
          obtain rfl := Option.some.inj ho
          exact StepsTo.move rfl (.tmp 78) (.inl rfl) ⟨(ht 9 (by kernel_rfl)), fun h => absurd h (by decide), fun _ => World.grownBy.refl _ _⟩
        | 11, ho =>
          obtain rfl := Option.some.inj ho
          obtain ⟨ba, bn, bc, ra, rn, rc, ys, h1, hrs, hru⟩ := ht 10 (by kernel_rfl)
          exact StepsTo.of_run rfl (run_extract0 rfl (show a1.eval (.tmp 68) = .tuple #[.agg #[.slice ba bn bc, .slice ra rn rc], .int .i64 E2] from h1)) ⟨⟨ba, bn, bc, ra, rn, rc, ys, rfl, hrs, hru⟩, fun h => absurd h (by decide), fun _ => World.grownBy.refl _ _⟩
        | 12, ho =>
          obtain rfl := Option.some.inj ho
          obtain ⟨ba, bn, bc, ra, rn, rc, ys, h1, hrs, hru⟩ := ht 10 (by kernel_rfl)
          exact StepsTo.of_run rfl (run_extract1 rfl (show a1.eval (.tmp 68) = .tuple #[.agg #[.slice ba bn bc, .slice ra rn rc], .int .i64 E2] from h1)) ⟨rfl, fun h => absurd h (by decide), fun _ => World.grownBy.refl _ _⟩
        | 13, ho =>
          obtain rfl := Option.some.inj ho
          exact StepsTo.of_run (v := .pointer (some ⟨w1.heap.size, 0, none⟩)) (w' := w1.alloc (.cells #[.slice none 0 0, .slice none 0 0] 32)) rfl (by simp only [execOp]; go_simp) ⟨⟨_, _, _, _, _, _, _, rfl, hJ.size, heap_alloc_new _ _⟩, fun h => absurd h (by decide), fun _ => World.grownBy_alloc _ _ _⟩
        | 14, ho =>
          obtain rfl := Option.some.inj ho
          obtain ⟨g, x, n, d, y, m, q, h1, h2, h3⟩ := ht 13 (by kernel_rfl)
          obtain ⟨ba, bn, bc, ra, rn, rc, ys, h4, hrs, hru⟩ := ht 11 (by kernel_rfl)
          have h1' : a1.eval (.tmp 15) = .pointer (some ⟨g, 0, none⟩) := h1
          have h4' : a1.eval (.tmp 79) = .agg #[.slice ba bn bc, .slice ra rn rc] := h4
          refine steps_store_g rfl 32 (.tmp 15) (.tmp 79) rfl h1' h4' h3 HI.out rfl (spec_cells _ _ _ _ _ _) ?_
          intro w' hw' hg' hsz'
          exact ⟨⟨g, ba, bn, bc, ra, rn, rc, ys, h1', h2, hw', hrs.box h3 hg', hru⟩, fun _ => ⟨g, _, _, _, _, _, _, _, _, _, _, _, _, h2, h3, hg', hw'⟩, fun h => absurd rfl h⟩
        | 15, ho =>
          obtain rfl := Option.some.inj ho
          exact StepsTo.move rfl (.tmp 80) (.inr rfl) ⟨(ht 12 (by kernel_rfl)), fun h => absurd h (by decide), fun _ => World.grownBy.refl _ _⟩
        | j1 + 16, ho => exact absurd (Array.getElem?_eq_some_iff.1 ho).1 (by simp)
      intro tm v4 hsz hJ hfr hto
      rw [act_lit2 tm (show tm.size = 141 from hsz)]
      simp only [List.range, List.range.loop, List.map_cons, List.map_nil]
      rw [hfr 0 (by kernel_rfl), hfr 1 (by kernel_rfl), hfr 2 (by kernel_rfl), hfr 3 (by kernel_rfl), hfr 4 (by kernel_rfl), hfr 5 (by kernel_rfl), hfr 6 (by kernel_rfl), hfr 7 (by kernel_rfl), hfr 8 (by kernel_rfl), hfr 9 (by kernel_rfl), hfr 10 (by kernel_rfl), hfr 11 (by kernel_rfl), hfr 12 (by kernel_rfl), hfr 13 (by kernel_rfl), hfr 14 (by kernel_rfl), hfr 17 (by kernel_rfl), hfr 18 (by kernel_rfl), hfr 19 (by kernel_rfl), hfr 20 (by kernel_rfl), hfr 21 (by kernel_rfl), hfr 22 (by kernel_rfl), hfr 23 (by kernel_rfl), hfr 24 (by kernel_rfl), hfr 25 (by kernel_rfl), hfr 26 (by kernel_rfl), hfr 27 (by kernel_rfl), hfr 28 (by kernel_rfl), hfr 29 (by kernel_rfl), hfr 30 (by kernel_rfl), hfr 31 (by kernel_rfl), hfr 32 (by kernel_rfl), hfr 33 (by kernel_rfl), hfr 34 (by kernel_rfl), hfr 35 (by kernel_rfl), hfr 36 (by kernel_rfl), hfr 37 (by kernel_rfl), hfr 38 (by kernel_rfl), hfr 39 (by kernel_rfl), hfr 40 (by kernel_rfl), hfr 41 (by kernel_rfl), hfr 42 (by kernel_rfl), hfr 43 (by kernel_rfl), hfr 44 (by kernel_rfl), hfr 45 (by kernel_rfl), hfr 46 (by kernel_rfl), hfr 47 (by kernel_rfl), hfr 48 (by kernel_rfl), hfr 49 (by kernel_rfl), hfr 50 (by kernel_rfl), hfr 51 (by kernel_rfl), hfr 52 (by kernel_rfl), hfr 53 (by kernel_rfl), hfr 54 (by kernel_rfl), hfr 55 (by kernel_rfl), hfr 56 (by kernel_rfl), hfr 57 (by kernel_rfl), hfr 58 (by kernel_rfl), hfr 59 (by kernel_rfl), hfr 60 (by kernel_rfl), hfr 61 (by kernel_rfl), hfr 62 (by kernel_rfl), hfr 63 (by kernel_rfl), hfr 64 (by kernel_rfl), hfr 65 (by kernel_rfl), hfr 66 (by kernel_rfl), hfr 67 (by kernel_rfl), hfr 81 (by kernel_rfl), hfr 82 (by kernel_rfl), hfr 83 (by kernel_rfl), hfr 84 (by kernel_rfl), hfr 85 (by kernel_rfl), hfr 86 (by kernel_rfl), hfr 87 (by kernel_rfl), hfr 88 (by kernel_rfl), hfr 89 (by kernel_rfl), hfr 90 (by kernel_rfl), hfr 91 (by kernel_rfl), hfr 92 (by kernel_rfl), hfr 93 (by kernel_rfl), hfr 94 (by kernel_rfl), hfr 95 (by kernel_rfl), hfr 96 (by kernel_rfl), hfr 97 (by kernel_rfl), hfr 98 (by kernel_rfl), hfr 99 (by kernel_rfl), hfr 100 (by kernel_rfl), hfr 101 (by kernel_rfl), hfr 102 (by kernel_rfl), hfr 103 (by kernel_rfl), hfr 104 (by kernel_rfl), hfr 105 (by kernel_rfl), hfr 106 (by kernel_rfl), hfr 107 (by kernel_rfl), hfr 108 (by kernel_rfl), hfr 109 (by kernel_rfl), hfr 110 (by kernel_rfl), hfr 111 (by kernel_rfl), hfr 112 (by kernel_rfl), hfr 113 (by kernel_rfl), hfr 114 (by kernel_rfl), hfr 115 (by kernel_rfl), hfr 116 (by kernel_rfl), hfr 117 (by kernel_rfl), hfr 118 (by kernel_rfl), hfr 119 (by kernel_rfl), hfr 120 (by kernel_rfl), hfr 121 (by kernel_rfl), hfr 122 (by kernel_rfl), hfr 123 (by kernel_rfl), hfr 124 (by kernel_rfl), hfr 125 (by kernel_rfl), hfr 126 (by kernel_rfl), hfr 127 (by kernel_rfl), hfr 128 (by kernel_rfl), hfr 129 (by kernel_rfl), hfr 130 (by kernel_rfl), hfr 131 (by kernel_rfl), hfr 132 (by kernel_rfl), hfr 133 (by kernel_rfl), hfr 134 (by kernel_rfl), hfr 135 (by kernel_rfl), hfr 136 (by kernel_rfl), hfr 137 (by kernel_rfl), hfr 138 (by kernel_rfl), hfr 139 (by kernel_rfl), hfr 140 (by kernel_rfl)]
      simp only [Array.getD_eq_getD_getElem?, List.getElem?_toArray, List.getElem?_cons_succ, List.getElem?_cons_zero, Option.getD_some]
      have t0 : (tm[69]?.getD undef) = .slice (some ⟨sg, 0, none⟩) sn sc := by have h := hto 0 (by decide); simp only [Array.getD_eq_getD_getElem?] at h; exact h
      have t1 : (tm[70]?.getD undef) = .string (strOfNums so) := by have h := hto 1 (by decide); simp only [Array.getD_eq_getD_getElem?] at h; exact h
      have t2 : (tm[71]?.getD undef) = .string (strOfNums ([75, 69, 89, 32] ++ so)) := by have h := hto 2 (by decide); simp only [Array.getD_eq_getD_getElem?] at h; exact h
      have t3 : (tm[72]?.getD undef) = .string (strOfNums (([75, 69, 89, 32] ++ so) ++ [32])) := by have h := hto 3 (by decide); simp only [Array.getD_eq_getD_getElem?] at h; exact h
      have t4 : (tm[73]?.getD undef) = .int .u64 (c : Int) := by have h := hto 4 (by decide); simp only [Array.getD_eq_getD_getElem?] at h; exact h
      have t5 : Str7 v4 dg (tm[74]?.getD undef) := by have h := hto 5 (by decide); simp only [Array.getD_eq_getD_getElem?] at h; exact h
      have t6 : (tm[75]?.getD undef) = .string (strOfNums dg) := by have h := hto 6 (by decide); simp only [Array.getD_eq_getD_getElem?] at h; exact h
      have t7 : (tm[76]?.getD undef) = .string (strOfNums LN2) := by have h := hto 7 (by decide); simp only [Array.getD_eq_getD_getElem?] at h; exact h
      have t8 : Str7 v4 LN2 (tm[77]?.getD undef) := by have h := hto 8 (by decide); simp only [Array.getD_eq_getD_getElem?] at h; exact h
      have t9 : Told7 v4 E2 RL2 (tm[78]?.getD undef) := by have h := hto 9 (by decide); simp only [Array.getD_eq_getD_getElem?] at h; exact h
      have t10 : Told7 v4 E2 RL2 (tm[68]?.getD undef) := by have h := hto 10 (by decide); simp only [Array.getD_eq_getD_getElem?] at h; exact h
      have t11 : Agg7 v4 RL2 (tm[79]?.getD undef) := by have h := hto 11 (by decide); simp only [Array.getD_eq_getD_getElem?] at h; exact h
      have t12 : (tm[80]?.getD undef) = .int .i64 E2 := by have h := hto 12 (by decide); simp only [Array.getD_eq_getD_getElem?] at h; exact h
      have t13 : Box7 v4 v3.heap.size (tm[15]?.getD undef) := by have h := hto 13 (by decide); simp only [Array.getD_eq_getD_getElem?] at h; exact h
      have t14 : Full7 v4 v3.heap.size RL2 (tm[15]?.getD undef) := by have h := hto 14 (by decide); simp only [Array.getD_eq_getD_getElem?] at h; exact h
      have t15 : (tm[16]?.getD undef) = .int .i64 E2 := by have h := hto 15 (by decide); simp only [Array.getD_eq_getD_getElem?] at h; exact h
      clear hto
      generalize tm[15]?.getD undef = y15 at *
      generalize tm[16]?.getD undef = y16 at *
      generalize tm[68]?.getD undef = y68 at *
      generalize tm[69]?.getD undef = y69 at *
      generalize tm[70]?.getD undef = y70 at *
      generalize tm[71]?.getD undef = y71 at *
      generalize tm[72]?.getD undef = y72 at *
      generalize tm[73]?.getD undef = y73 at *
      generalize tm[74]?.getD undef = y74 at *
      generalize tm[75]?.getD undef = y75 at *
      generalize tm[76]?.getD undef = y76 at *
      generalize tm[77]?.getD undef = y77 at *
      generalize tm[78]?.getD undef = y78 at *
      generalize tm[79]?.getD undef = y79 at *
      generalize tm[80]?.getD undef = y80 at *
      clear hfr hsz tm
      obtain rfl := t15
      obtain ⟨g2, ba2, bn2, bc2, ra2, rn2, rc2, ys2, rfl, hg2, hx2, hr2, hu2⟩ := t14
      have hb4 := grown_below7 hJ
      have HB4 : Hid (Below w.heap.size w v4) := HB3.out.trans (hb4.mono HB3.out.size)
      have HX1' := Lib.hid ((hb4.block _ (Array.getElem?_eq_some_iff.1 HX1.out).1).trans HX1.out)
      have HR1' := Lib.hid (HR1.out.below hb4 (Nat.le_refl _))
      have HN1 : Hid (rn1 = RL1.length) := rs_len HR1.out HU1.out
      have HN2 : Hid (rn2 = RL2.length) := rs_len hr2 hu2
      have hc1 : v4.cell? ⟨g1, 1, none⟩ = some (.slice ra1 rn1 rc1) := by simp [World.cell?, HX1'.out]
      have hc2 : v4.cell? ⟨g2, 1, none⟩ = some (.slice ra2 rn2 rc2) := by simp [World.cell?, hx2]
      clear hg2 hx2 hr2 hu2 hJ hb4 HSO2 HLL2 HLW2 HRD2 HLE2 HX1 HR1 t0 t1 t2 t3 t4 t5 t6 t7 t8 t9 t10 t11 t12 t13
      by_cases hk12 : i ≤ 12
      · have hk12i : ¬ (12 : Int) < (i : Int) := by omega
        have h1 := HSP1.out
        have h2 := HSP2.out
        rw [if_pos hk12] at h1 h2
        simp only [Spec.Sp.mk.injEq] at h1 h2
        obtain ⟨rfl, rfl, rfl⟩ := h1
        obtain ⟨rfl, rfl, rfl⟩ := h2
        have HNM : Hid ((nrm (ruls ys1)).length = i * (i - 1)) := by
          show (nrm (ruls ys1)).length = i * (i - 1)
          rw [HU1.out]; exact Spec.many_norm HBB.out.1 (by have := HBB.out; omega) (by have := HCM.out; omega)
        have hn1 : rn1 = i * (i - 1) := by rw [HN1.out]; exact Spec.many_len _
        have hn2 : rn2 = 2 * (i - 1) := by
          rw [HN2.out]
          obtain ⟨j, rfl⟩ : ∃ j, i = j + 1 := ⟨i - 1, by omega⟩
          exact Spec.keysF_len0 _ j B HBB.out.1
        have hc : i = 1 ∨ i = 2 ∨ i = 3 ∨ i = 4 ∨ i = 5 ∨ i = 6 ∨ i = 7 ∨ i = 8 ∨ i = 9 ∨ i = 10 ∨ i = 11 ∨ i = 12 := by omega
        clear hk0 hk0i hk0b hk12 hk12i hlt hi hk14 hf hB HSP1 HSP2 HPU HG HSN HN1 HN2
        rcases hc with rfl | rfl | rfl | rfl | rfl | rfl | rfl | rfl | rfl | rfl | rfl | rfl <;> simp only [Nat.reduceMul, Nat.reduceSub, Nat.reduceAdd] at hn1 hn2 HNM <;> subst hn1 hn2
        all_goals
          go_wp2_with fail
          refine (norm_any _ _ _ ys1 _ HR1'.out (by omega)).mono ?_
          rintro e v5 ⟨na, nn, nc, outs, rfl, hro, huo, _, _, hb5⟩
          obtain rfl := rs_len hro huo
          have HB5 : Hid (Below w.heap.size w v5) := HB4.out.trans (hb5.mono HB4.out.size)
          simp only [HNM.out]
          clear hro huo hb5
          go_wp2
          go_ret
          exact ⟨rfl, HB5.out⟩
      · have hk12i : (12 : Int) < (i : Int) := by omega
        have h1 := HSP1.out
        have h2 := HSP2.out
        rw [if_neg hk12] at h1 h2
        simp only [Spec.Sp.no, Spec.Sp.mk.injEq] at h1 h2
        obtain ⟨rfl, rfl, rfl⟩ := h1
        obtain ⟨rfl, rfl, rfl⟩ := h2
        obtain rfl : rn1 = 0 := HN1.out
        obtain rfl : rn2 = 0 := HN2.out
        go_wp2
        go_ret
        exact ⟨rfl, HB4.out⟩
  -- go_enter Try.func6, Try.ntmps6
  -- go_wp2
  -- go_ret
  -- exact ⟨rfl, by repeat (first | exact Grown.refl _ | apply Grown.drew | apply Grown.alloc)⟩

/-! ### THE ROW's STEP: WRITTEN OUT: LEAVE IT -/
set_option maxRecDepth 100000 in
theorem lifted (os : Os) (started : os.Started) (H : Type) (enc : TypeId × Value → H) :
    ReturnsInHanded {} Try.checked os 6 .any (Rows.specManySpec.pre6 enc Try.prog Try.f6 Rows.specManyRow.domain false) (Rows.specManySpec.post enc Try.prog Try.f6 false true false false) := by
  refine returnsInHanded_of_change (C := Try.checked) own started (by kernel_rfl) Try.func6
    (ChangeSpec.witness6 (enc := enc) (C := Try.checked) false ⟨#[], #[.int .u8 0, .int .u16 0, .int .u64 0], []⟩ 8 (by kernel_rfl) (by kernel_rfl) (by kernel_rfl) (by kernel_rfl)) ?_
  intro W base args ds gs before hval0 hW hcnd _
  have hval : ∀ (j : Nat) t v, Try.f6.params[j]? = some t → args[j]? = some v → Value.okWide Try.prog W .any base t v := hval0
  have hW' := hW
  obtain ⟨p, q, hA0, hV, rfl, hfz, hnd⟩ := hW
  have hA : DataW.TrodAll enc Try.prog W 0 (fun _ => true) true Try.f6.params.toList args.toList ds p := hA0
  rw [Try.params6] at hA hval
  obtain ⟨v0, vs0, d0, ds0, p0, q0, hargs, rfl, rfl, h0, r0⟩ := trodAll_cons hA
  obtain ⟨v1, vs1, d1, ds1, p1, q1, rfl, rfl, rfl, h1, r1⟩ := trodAll_cons r0
  obtain ⟨v2, vs2, d2, ds2, p2, q2, rfl, rfl, rfl, h2, r2⟩ := trodAll_cons r1
  obtain ⟨rfl, rfl, rfl⟩ := trodAll_nil r2
  obtain rfl : args = #[v0, v1, v2] := by cases args; simp_all
  obtain ⟨rfl, rfl⟩ := trodVars_none hV
  obtain ⟨a0, rfl, rfl, rfl, w0⟩ := open_int Try.underlying5 (hval 0 5 v0 rfl rfl) h0
  obtain ⟨a1, rfl, rfl, rfl, w1⟩ := open_int Try.underlying47 (hval 1 47 v1 rfl rfl) h1
  obtain ⟨a2, rfl, rfl, rfl, w2⟩ := open_int Try.underlying24 (hval 2 24 v2 rfl rfl) h2
  clear hA0 hval0
  refine (walk a0 a1 a2 w0 w1 w2 W).mono fun e W' ⟨he, bel⟩ => ?_
  subst he
  exact ⟨_, rfl, _, _, _, [], _, [], hW', trodAll_mk1 (shut_bool Try.underlying4 _), (trodAll_cons_mk (shut_int Try.underlying5 w0) (trodAll_cons_mk (shut_int Try.underlying47 w1) (trodAll_cons_mk (shut_int Try.underlying24 w2) trodAll_mk0))), rfl, bel.frame _, fun h => by cases h⟩

theorem over : Rows.specManyRow.holds Try.pinned (OpenSpec.ofChange Rows.specManySpec) :=
  OpenClaim.holds_of_wide 6 Try.f6 rfl rfl rfl rfl rfl rfl rfl ⟨rfl, rfl, rfl, rfl, rfl⟩ rfl rfl rfl rfl rfl (by kernel_rfl) Try.func6 (by kernel_rfl)
    (of_decide_eq_true (by kernel_rfl)) (by unfold Func.isWrapper; first | (rw [if_pos (by decide +kernel)]; kernel_rfl) | (rw [if_neg (by decide +kernel)]; exact ⟨rfl, rfl⟩))
    (fun os started H enc _ => lifted os started H enc)

/-- ████ THE STATEMENT ████ -/
theorem proved : Rows.SpecManySaid :=
  over
#print axioms proved
end Go.Proofs.Ytdeicfdbjmpliaa.specMany
