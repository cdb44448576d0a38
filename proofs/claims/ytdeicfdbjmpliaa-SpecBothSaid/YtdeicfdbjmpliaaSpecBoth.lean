/- For every list of numbers, every cost, number and truth value, SpecBoth answers true, and turns nothing that was there. No condition. -/
import Derived.Test.YtdeicfdbjmpliaaRows
import Derived.Test.YtdeicfdbjmpliaaPackI
import Derived.Test.YtdeicfdbjmpliaaSpecBothM
import Derived.WalkKit
import Derived.ProofKit
import Derived.OpenShut
import Derived.ShutString
import Derived.ChangeOld
import Derived.Below
namespace Go.Proofs.Ytdeicfdbjmpliaa.specBoth
open Go.ChangeShapes Go.WideShapes Go.ChangeAt Go.RowKit
open Go.ChangeMaps (open_string shut_string)
set_option linter.unusedVariables false

theorem own : ownKnob Try.prog.godebug = none := by kernel_rfl
theorem laidOut : laidOutB Try.prog = true := by kernel_rfl

/-- WHAT THE WALK IS TOLD OF A SLICE OF INTEGERS THAT CAME IN: it is nil; or it leads to a row of 'cap' cells, the numbers 'zs' (the first 'len' are its elements, the rest its spare room), each fitting its kind. -/
def IsRow (k : IntKind) (w : World) (a : Option Addr) (len cap : Nat) (zs : List Int) : Prop :=
  (a = none ∧ len = 0 ∧ cap = 0 ∧ zs = []) ∨
  ∃ x, a = some x ∧ len ≤ cap ∧ cap ≤ maxLen ∧ zs.length = cap ∧ (∀ i, i < zs.length → w.cell? (x.add i) = some (.int k (zs.getD i 0))) ∧ ∀ n ∈ zs, (Lit.int k n).wf = true

/-! ### STEP 1: THE WALK: the Go text returns true, AND WRITES NOTHING THAT WAS THERE: 'Below w.heap.size w w'' (Derived/Below.lean: '.refl', '.alloc', '.drew', '.setCell' at a new block, '.trans'). Open each 'IsRow' by 'rcases' AHEAD of 'go_enter'; part every test ahead of the walk. -/
set_option maxHeartbeats 25600000 in
set_option maxRecDepth 100000 in
theorem walk (a0 : Option Addr) (len0 cap0 : Nat) (z0 : List Int) (a1 : Int) (a2 : Int) (a3 : Bool) (w : World) (w0 : IsRow .i64 w a0 len0 cap0 z0) (w1 : (Lit.int .u64 a1).wf = true) (w2 : (Lit.int .u8 a2).wf = true) :
    Calls Try.prog 5 #[.slice a0 len0 cap0, .int .u64 a1, .int .u8 a2, .bool a3] w fun e w' => e = .returned (.bool true) ∧ Below w.heap.size w w' := by
  have hs0 := Sl.of_row w0
  generalize z0.take len0 = xs at hs0
  have hcm0 := hs0.2.2.1
  have hnc0 := hs0.2.1
  unfold maxLen at hcm0
  have HS := Lib.hid hs0
  have HXL : Hid (xs.length = len0) := hs0.1
  have hb1 := bounds_u64 w1
  have hb2 := bounds_u8 w2
  obtain ⟨c, rfl⟩ : ∃ c : Nat, a1 = (c : Int) := ⟨a1.toNat, by omega⟩
  obtain ⟨f, rfl⟩ : ∃ f : Nat, a2 = (f : Int) := ⟨a2.toNat, by omega⟩
  have HC64 : Hid (c < 18446744073709551616) := by show c < _; omega
  have HI : Hid ((Try.prog.info? 32).map (·.size) = some 2) := info_spec
  have hmx : Try.prog.follows .mixedOrders = true := by kernel_rfl
  have HMX := Lib.hid hmx
  clear w0 w1 w2 hmx hs0
  go_enter Try.func5, Try.ntmps5
  go_wp2_with fail
  refine (awake_any _).mono ?_
  rintro e v1 ⟨rfl, B1⟩
  have HB1 := Lib.hid B1
  clear B1
  go_wp2
  go_loopw [10, 11] (fun ov ix wr => ∃ (i : Nat) (a' : Option Addr) (c' : Nat), i ≤ len0 ∧ ix = .int .i64 (i : Int) ∧ ov = .slice a' i c' ∧ (i = 0 ∨ len0 ≤ 12 ∧ c ≠ 18446744073709551615) ∧ Hid (∀ x ∈ xs.take i, Spec.Fair x) ∧ Hid (wr.ownsRow v1.heap.size 3 1 (.slice a' i c') i (i64s (Spec.rot xs f i))) ∧ Hid (Below v1.heap.size v1 wr)) (fun _ ix _ => len0 - (intOf ix).toNat)
  case atStart => exact ⟨0, none, 0, Nat.zero_le _, rfl, rfl, .inl rfl, (by first | trivial | (intro x hx; simp at hx)), World.ownsRow_nil _ _ _ _, Below.refl _ _⟩
  case round =>
    obtain ⟨i, a', c', hi, rfl, rfl, hcc, HF, HO, HB⟩ := hrel
    have HBw : Hid (Below w.heap.size w wr) := HB1.out.trans (HB.out.mono HB1.out.size)
    have HSw := Lib.hid (HS.out.below HBw.out (Nat.le_refl _))
    by_cases hlt : i < len0
    · have hlti : (i : Int) < (len0 : Int) := by omega
      have hi13 : (i : Int) < 13 := by omega
      obtain ⟨b0, o0, rfl, _, hce⟩ := HSw.out.at (by omega)
      obtain ⟨x, hx⟩ : ∃ x, xs.getD i 0 = x := ⟨_, rfl⟩
      have hcx : wr.cell? ⟨b0, o0 + i, none⟩ = some (.int .i64 x) := by rw [hce i hlt, hx]
      obtain ⟨m, hm⟩ : ∃ m, (i + f) % len0 = m := ⟨_, rfl⟩
      have hml : m < len0 := by rw [← hm]; exact Nat.mod_lt _ (by omega)
      have hmli : (m : Int) < (len0 : Int) := by omega
      obtain ⟨y, hy⟩ : ∃ y, xs.getD m 0 = y := ⟨_, rfl⟩
      have hcy : wr.cell? ⟨b0, o0 + m, none⟩ = some (.int .i64 y) := by rw [hce m hml, hy]
      have HXI : Hid (xs.getD i 0 = x) := hx
      have HYE : Hid (xs.getD ((i + f) % len0) 0 = y) := by show xs.getD ((i + f) % len0) 0 = y; rw [hm]; exact hy
      have hmi : ((i : Int) + (f : Int)) % (len0 : Int) = (m : Int) := by rw [← hm]; simp
      have hmt : ((i : Int) + (f : Int)).tmod (len0 : Int) = (m : Int) := by rw [← hmi]; exact Int.tmod_eq_emod_of_nonneg (by omega)
      have hne : ¬ (len0 : Int) = 0 := by omega
      have HWY : Hid (∀ z ∈ [y], (Lit.int .i64 z).wf = true) := by
        intro z hz
        rw [List.mem_singleton.1 hz, ← hy]
        exact HSw.out.getD_bounds m hml
      clear hce hx hy hm
      by_cases q1 : x ≤ 32
      · go_wp2
        go_ret
        exact ⟨rfl, HBw.out⟩
      have q1' : 32 < x := by omega
      by_cases q2 : x = 95
      · subst q2
        go_wp2
        go_ret
        exact ⟨rfl, HBw.out⟩
      by_cases q3 : x = 124
      · subst q3
        go_wp2
        go_ret
        exact ⟨rfl, HBw.out⟩
      have q2b : (x == 95) = false := by simp [q2]
      have q3b : (x == 124) = false := by simp [q3]
      by_cases q4 : 12 < len0
      · have q4i : (12 : Int) < (len0 : Int) := by omega
        go_wp2
        go_ret
        exact ⟨rfl, HBw.out⟩
      have q4i : ¬ (12 : Int) < (len0 : Int) := by omega
      by_cases q5 : c = 18446744073709551615
      · subst q5
        go_wp2
        go_ret
        exact ⟨rfl, HBw.out⟩
      have q5i : ¬ (c : Int) = 18446744073709551615 := by omega
      have q5b : ((c : Int) == 18446744073709551615) = false := by simp; omega
      have hsz2 := HB.out.size
      have HFX : Hid (Spec.Fair x) := ⟨q1', q2, q3⟩
      go_wp2_with (at_builtin; refine append_ints7 rfl (.tmp 65) (.tmp 76) (by rfl) v1.heap.size _ i (Spec.rot xs f i) (by rfl) (HO.out.alloc _) ⟨wr.heap.size, 0, none⟩ 1 y (by rfl) (Sl.lay (k := .i64) [y] HWY.out (by unfold maxLen; simp) rfl rfl rfl) (i + 1) rfl (by omega) (by simp; omega) ?_
                   intro a8 c8 w8 hown8 hb8 hn8
                   have HO8 := Lib.hid hown8
                   have HB8 : Hid (Below v1.heap.size v1 w8) := (HB.out.alloc hsz2 _).trans hb8
                   clear hown8 hb8 hn8)
      go_roundw
      case rel =>
        refine ⟨i + 1, a8, c8, by omega, by go_num, rfl, .inr ⟨by omega, q5⟩, ?_, ?_, HB8.out⟩
        · show ∀ z ∈ xs.take (i + 1), Spec.Fair z
          rw [List.take_succ_eq_append_getElem (by rw [HXL.out]; exact hlt)]
          intro z hz
          rcases List.mem_append.1 hz with hz | hz
          · exact HF.out z hz
          · have e : xs[i]'(by rw [HXL.out]; exact hlt) = x := by have h := HXI.out; rw [List.getD_eq_getElem?_getD, List.getElem?_eq_getElem (by rw [HXL.out]; exact hlt)] at h; exact h
            rw [List.mem_singleton.1 hz, e]; exact HFX.out
        · show World.ownsRow _ _ _ _ _ _ _
          rw [Spec.rot_next, HXL.out, HYE.out]; exact HO8.out
      case measure => simp [intOf]; omega
    · obtain rfl : i = len0 := by omega
      have hi12 : i ≤ 12 := by omega
      have HFA : Hid (∀ x ∈ xs, Spec.Fair x) := by
        have h := HF.out
        rw [List.take_of_length_le (by rw [HXL.out]; exact Nat.le_refl _)] at h
        exact h
      obtain ⟨ts, hts⟩ : ∃ l, Spec.rot xs f i = l := ⟨_, rfl⟩
      have HTL : Hid (ts.length = i) := by show ts.length = i; rw [← hts]; exact Spec.rot_len _ _ _
      have HTS : Hid (Spec.rot xs f xs.length = ts) := by show Spec.rot xs f xs.length = ts; rw [HXL.out]; exact hts
      have HTG : Hid (Utf.allGood xs = true → Utf.allGood ts = true) := fun h => by
        rw [← hts]
        rcases Nat.eq_zero_or_pos i with h0 | hp
        · rw [h0]; rfl
        · exact Spec.rot_good (by rw [HXL.out]; exact hp) h
      have HTM : Hid (∀ x ∈ ts, x ∈ xs) := fun x hx => by
        have h := HTS.out
        rw [← h] at hx
        exact Spec.rot_mem x |>.1 hx
      have HL : Hid (Sl .i64 wr a' i c' ts) := Sl.of_owns (k := .i64) (by rw [← hts]; exact HO.out) (fun z hz => by
        obtain ⟨j, hj, e⟩ := List.mem_iff_getElem.1 (HTM.out z hz)
        rw [← e]
        have := HSw.out.getD_bounds j (by have := HXL.out; omega)
        rw [List.getD_eq_getElem?_getD, List.getElem?_eq_getElem hj] at this
        exact this) HTL.out
      clear hts HO HB HF hi hlt
      cases hg : Utf.allGood xs with
      | false =>
        go_wp2_with fail
        refine (put_bad a0 i cap0 xs wr HSw.out (by omega) hg).mono ?_
        rintro e v2 ⟨rfl, hb2'⟩
        have HL2 := Lib.hid (HL.out.below hb2' (Nat.le_refl _))
        have HB2 : Hid (Below w.heap.size w v2) := HBw.out.trans (hb2'.mono HBw.out.size)
        clear hb2' HL HBw
        cases hgt : Utf.allGood ts with
        | false =>
          go_wp2_with fail
          refine (put_bad a' i c' ts v2 HL2.out (by omega) hgt).mono ?_
          rintro e v3 ⟨rfl, hb3'⟩
          have HB3 : Hid (Below w.heap.size w v3) := HB2.out.trans (hb3'.mono HB2.out.size)
          clear hb3'
          go_wp2
          go_ret
          exact ⟨rfl, HB3.out⟩
        | true =>
          go_wp2_with fail
          refine (put_is a' i c' ts _ _ v2 HL2.out (by omega) hgt rfl rfl).mono ?_
          rintro e v3 ⟨tg, tc, rfl, _, hb3'⟩
          have HB3 : Hid (Below w.heap.size w v3) := HB2.out.trans (hb3'.mono HB2.out.size)
          clear hb3'
          go_wp2
          go_ret
          exact ⟨rfl, HB3.out⟩
      | true =>
        have HG := Lib.hid hg
        have HGT : Hid (Utf.allGood ts = true) := HTG.out hg
        obtain ⟨so, hso⟩ : ∃ l, Utf.put xs = l := ⟨_, rfl⟩
        obtain ⟨sn, hsn⟩ : ∃ m, so.length = m := ⟨_, rfl⟩
        obtain ⟨to, hto⟩ : ∃ l, Utf.put ts = l := ⟨_, rfl⟩
        obtain ⟨tn, htn⟩ : ∃ m, to.length = m := ⟨_, rfl⟩
        have HSL1 : Hid (so.length ≤ 100) := by
          show so.length ≤ 100
          rw [← hso]
          have := Utf.put_length_le xs
          have := HXL.out
          omega
        have HSL2 : Hid (to.length ≤ 100) := by
          show to.length ≤ 100
          rw [← hto]
          have := Utf.put_length_le ts
          have := HTL.out
          omega
        have HPU := Lib.hid hso
        have HSN := Lib.hid hsn
        have HPT := Lib.hid hto
        have HTN := Lib.hid htn
        obtain ⟨dg, hdg⟩ : ∃ l, Num.dig c = l := ⟨_, rfl⟩
        have HDL : Hid (dg.length ≤ 20) := by show dg.length ≤ 20; rw [← hdg]; exact Num.len_20 HC64.out
        have HDW : Hid (∀ z ∈ dg, (Lit.int .u8 z).wf = true) := by
          show ∀ z ∈ dg, (Lit.int .u8 z).wf = true
          rw [← hdg]
          exact Num.dig_wf c
        have HDG := Lib.hid hdg
        clear hso hsn hto htn hdg hg
        go_wp2_with fail
        refine (put_is a0 i cap0 xs so sn wr HSw.out (by omega) HG.out HPU.out HSN.out).mono ?_
        rintro e v2 ⟨sg, sc, rfl, hsl, hb2'⟩
        have HL2 := Lib.hid (HL.out.below hb2' (Nat.le_refl _))
        have HB2 : Hid (Below w.heap.size w v2) := HBw.out.trans (hb2'.mono HBw.out.size)
        have HSOa : Hid (Sl .u8 v2 (some ⟨sg, 0, none⟩) sn sc so) := hsl
        clear hsl hb2' HL HBw HSw
        go_wp2_with fail
        refine (put_is a' i c' ts to tn v2 HL2.out (by omega) HGT.out HPT.out HTN.out).mono ?_
        rintro e v3 ⟨tg, tc, rfl, htl, hb3'⟩
        have HB3 : Hid (Below w.heap.size w v3) := HB2.out.trans (hb3'.mono HB2.out.size)
        have HSO1 : Hid (Sl .u8 v3 (some ⟨sg, 0, none⟩) sn sc so) := HSOa.out.below hb3' (Nat.le_refl _)
        have HSOb : Hid (Sl .u8 v3 (some ⟨tg, 0, none⟩) tn tc to) := htl
        clear htl hb3' HL2 HSOa HB2
        by_cases hk0 : i = 0
        · subst hk0
          go_wp2
          go_ret
          exact ⟨rfl, HB3.out⟩
        have hk0i : ¬ (i : Int) = 0 := by omega
        have hk0b : ((i : Int) == 0) = false := by simp; omega
        have HCM : Hid (c < 18446744073709551615) := by
          have h := HC64.out
          rcases hcc with h0 | h0
          · exact absurd h0 hk0
          · show c < _; omega
        have HXN : Hid (xs ≠ []) := fun e => by have h := HXL.out; rw [e] at h; exact hk0 h.symm
        have HTNE : Hid (ts ≠ []) := fun e => by have h := HTL.out; rw [e] at h; exact hk0 h.symm
        have HTF : Hid (∀ x ∈ ts, Spec.Fair x) := fun x hx => HFA.out x (HTM.out x hx)
        cases a3
        · -- rows: False
          obtain ⟨LN1, hle1⟩ : ∃ l, [77, 65, 80, 32] ++ so ++ [32] ++ dg = l := ⟨_, rfl⟩
          have HLL1 : Hid (LN1.length ≤ 1000) := by
            show LN1.length ≤ 1000
            rw [← hle1]
            have h1 := HSL1.out
            have h2 := HDL.out
            simp only [List.length_append, List.length_cons, List.length_nil]
            omega
          have HLW1 : Hid (∀ z ∈ LN1, (Lit.int .u8 z).wf = true) := by
            show ∀ z ∈ LN1, (Lit.int .u8 z).wf = true
            rw [← hle1]
            intro z hz
            rcases List.mem_append.1 hz with hz | hz
            · rcases List.mem_append.1 hz with hz | hz
              · rcases List.mem_append.1 hz with hz | hz
                · exact (show ∀ z ∈ ([77, 65, 80, 32] : List Int), (Lit.int .u8 z).wf = true by decide) z hz
                · exact HSO1.out.2.2.2.1 z hz
              · exact (show ∀ z ∈ ([32] : List Int), (Lit.int .u8 z).wf = true by decide) z hz
            · exact HDW.out z hz
          obtain ⟨⟨E1, BS1, RL1⟩, hrd1⟩ : ∃ s, Spec.read LN1 = s := ⟨_, rfl⟩
          have HRD1 := Lib.hid hrd1
          have HSP1 : Hid ((⟨E1, BS1, RL1⟩ : Spec.Sp) = (⟨0, [], Spec.mapsG (c : Int) xs⟩ : Spec.Sp)) := by show _ = (⟨0, [], Spec.mapsG (c : Int) xs⟩ : Spec.Sp); rw [← hrd1, ← hle1]; exact (by rw [← HDG.out, ← HPU.out]; exact Spec.read_class_fair HFA.out HG.out HXN.out (by have := HXL.out; omega) HCM.out)
          have HLE1 := Lib.hid hle1
          clear hle1 hrd1
          have HSO2 := HSOb
          obtain ⟨LN2, hle2⟩ : ∃ l, [77, 65, 80, 32] ++ to ++ [32] ++ dg = l := ⟨_, rfl⟩
          have HLL2 : Hid (LN2.length ≤ 1000) := by
            show LN2.length ≤ 1000
            rw [← hle2]
            have h1 := HSL2.out
            have h2 := HDL.out
            simp only [List.length_append, List.length_cons, List.length_nil]
            omega
          have HLW2 : Hid (∀ z ∈ LN2, (Lit.int .u8 z).wf = true) := by
            show ∀ z ∈ LN2, (Lit.int .u8 z).wf = true
            rw [← hle2]
            intro z hz
            rcases List.mem_append.1 hz with hz | hz
            · rcases List.mem_append.1 hz with hz | hz
              · rcases List.mem_append.1 hz with hz | hz
                · exact (show ∀ z ∈ ([77, 65, 80, 32] : List Int), (Lit.int .u8 z).wf = true by decide) z hz
                · exact HSO2.out.2.2.2.1 z hz
              · exact (show ∀ z ∈ ([32] : List Int), (Lit.int .u8 z).wf = true by decide) z hz
            · exact HDW.out z hz
          obtain ⟨⟨E2, BS2, RL2⟩, hrd2⟩ : ∃ s, Spec.read LN2 = s := ⟨_, rfl⟩
          have HRD2 := Lib.hid hrd2
          have HSP2 : Hid ((⟨E2, BS2, RL2⟩ : Spec.Sp) = (⟨0, [], Spec.mapsG (c : Int) ts⟩ : Spec.Sp)) := by show _ = (⟨0, [], Spec.mapsG (c : Int) ts⟩ : Spec.Sp); rw [← hrd2, ← hle2]; exact (by rw [← HDG.out, ← HPT.out]; exact Spec.read_class_fair HTF.out HGT.out HTNE.out (by have := HTL.out; omega) HCM.out)
          have HLE2 := Lib.hid hle2
          clear HSO2 hle2 hrd2
          go_wp2_with fail
          refine wp_region_told2 HMX.out 15 [(102, 102), (103, 103), (104, 104), (105, 105), (106, 106), (107, 107), (108, 108), (109, 109), (110, 110), (111, 111), (112, 112), (101, 101), (113, 113), (114, 114), (17, 17), (17, 17), (18, 18)]
            (fun (j : Nat) (v u : Value) (w0 : World) => match j with
              | 0 => v = .string (strOfNums [77, 65, 80, 32])
              | 1 => v = .slice (some ⟨sg, 0, none⟩) sn sc
              | 2 => v = .string (strOfNums so)
              | 3 => v = .string (strOfNums ([77, 65, 80, 32] ++ so))
              | 4 => v = .string (strOfNums (([77, 65, 80, 32] ++ so) ++ [32]))
              | 5 => v = .int .u64 (c : Int)
              | 6 => Str7 w0 dg v
              | 7 => v = .string (strOfNums dg)
              | 8 => v = .string (strOfNums LN1)
              | 9 => Str7 w0 LN1 v
              | 10 => Told7 w0 E1 RL1 v
              | 11 => Told7 w0 E1 RL1 v
              | 12 => Agg7 w0 RL1 v
              | 13 => v = .int .i64 E1
              | 14 => Box7 w0 v3.heap.size v
              | 15 => Full7 w0 v3.heap.size RL1 v
              | 16 => v = .int .i64 E1
              | _ => True)
            (fun W => (v3).drew.grownBy W none) (fun _ w0 w' => Turn7 v3.heap.size w0 w') (by kernel_rfl) (by kernel_rfl) (World.grownBy.refl _ _) (fun _ _ h1 h2 => h1.trans h2) (fun _ _ _ h1 h2 => fresh_turn h1 h2) ?_ ?_ ?_ ?_
          · intro j v u w0 w' h hg
            match j, h with
            | 0, h => exact h
            | 1, h => exact h
            | 2, h => exact h
            | 3, h => exact h
            | 4, h => exact h
            | 5, h => exact h
            | 6, h => exact h.kept hg
            | 7, h => exact h
            | 8, h => exact h
            | 9, h => exact h.kept hg
            | 10, h => exact h.kept hg
            | 11, h => exact h.kept hg
            | 12, h => exact h.kept hg
            | 13, h => exact h
            | 14, h => exact h.kept hg
            | 15, h => exact h.kept hg
            | 16, h => exact h
            | j + 17, h => exact h
          · intro j v u a0 w0 w' hne h hr
            match j, hne, h with
            | 0, hne, h => exact h
            | 1, hne, h => exact h
            | 2, hne, h => exact h
            | 3, hne, h => exact h
            | 4, hne, h => exact h
            | 5, hne, h => exact h
            | 6, hne, h => exact h.turned hr
            | 7, hne, h => exact h
            | 8, hne, h => exact h
            | 9, hne, h => exact h.turned hr
            | 10, hne, h => exact h.turned hr
            | 11, hne, h => exact h.turned hr
            | 12, hne, h => exact h.turned hr
            | 13, hne, h => exact h
            | 14, hne, h => exact h.turned hr
            | 15, hne, h => exact absurd rfl hne
            | 16, hne, h => exact h
            | j + 17, _, h => exact h
          · intro i1 o ho a1 w1 hJ hw ht
            match i1, ho with
            | 0, ho =>
              obtain rfl := Option.some.inj ho
              exact StepsTo.move rfl (.tmp 16) (.inl rfl) ⟨(hw 16 (by kernel_rfl)), fun h => absurd h (by decide), fun _ => World.grownBy.refl _ _⟩
            | 1, ho =>
              obtain rfl := Option.some.inj ho
              exact StepsTo.move rfl (.tmp 12) (.inl rfl) ⟨(hw 12 (by kernel_rfl)), fun h => absurd h (by decide), fun _ => World.grownBy.refl _ _⟩
            | 2, ho =>
              obtain rfl := Option.some.inj ho
              exact StepsTo.of_run rfl (run_str rfl (show a1.eval (.tmp 103) = .slice (some ⟨sg, 0, none⟩) sn sc from (ht 1 (by kernel_rfl))) (HSO1.out.below (grown_below7 hJ) (Nat.le_refl _))) ⟨rfl, fun h => absurd h (by decide), fun _ => World.grownBy.refl _ _⟩
            | 3, ho =>
              obtain rfl := Option.some.inj ho
              exact StepsTo.of_run rfl (run_addS rfl (show a1.eval (.tmp 102) = .string (strOfNums [77, 65, 80, 32]) from (ht 0 (by kernel_rfl))) (show a1.eval (.tmp 104) = .string (strOfNums so) from (ht 2 (by kernel_rfl))) (by simp only [str_size]; have := HSL1.out; have := HDL.out; simp only [List.length_cons, List.length_nil]; omega)) ⟨congrArg Value.string (str_app _ _), fun h => absurd h (by decide), fun _ => World.grownBy.refl _ _⟩
            | 4, ho =>
              obtain rfl := Option.some.inj ho
              exact StepsTo.of_run rfl (run_addS rfl (show a1.eval (.tmp 105) = .string (strOfNums ([77, 65, 80, 32] ++ so)) from (ht 3 (by kernel_rfl))) (show a1.eval (.const (.string ⟨#[32]⟩)) = .string (strOfNums [32]) from rfl) (by simp only [str_size]; have := HSL1.out; have := HDL.out; simp only [List.length_append, List.length_cons, List.length_nil]; omega)) ⟨congrArg Value.string (str_app _ _), fun h => absurd h (by decide), fun _ => World.grownBy.refl _ _⟩
            | 5, ho =>
              obtain rfl := Option.some.inj ho
              exact StepsTo.move rfl (.tmp 1) (.inl rfl) ⟨(hw 1 (by kernel_rfl)), fun h => absurd h (by decide), fun _ => World.grownBy.refl _ _⟩
            | 6, ho =>
              obtain rfl := Option.some.inj ho
              refine StepsTo.enter rfl _ _ (run_numWrite rfl (show a1.eval (.tmp 107) = .int .u64 (c : Int) from (ht 5 (by kernel_rfl)))) (write_any c HC64.out w1) (fun e w' h => ?_)
              obtain ⟨a', n', c', rfl, hn, hs, hnil, hb⟩ := h
              rw [HDG.out] at hn hs
              subst hn
              exact ⟨_, rfl, ⟨a', c', rfl, Sl.of_owns (k := .u8) hs HDW.out rfl, hnil⟩, fun h => absurd h (by decide), fun _ => below_grew7 hb⟩
            | 7, ho =>
              obtain rfl := Option.some.inj ho
              obtain ⟨p, d, h1, h2, _⟩ := ht 6 (by kernel_rfl)
              exact StepsTo.of_run rfl (run_str rfl (show a1.eval (.tmp 108) = .slice p dg.length d from h1) h2) ⟨rfl, fun h => absurd h (by decide), fun _ => World.grownBy.refl _ _⟩
            | 8, ho =>
              obtain rfl := Option.some.inj ho
              exact StepsTo.of_run rfl (run_addS rfl (show a1.eval (.tmp 106) = .string (strOfNums (([77, 65, 80, 32] ++ so) ++ [32])) from (ht 4 (by kernel_rfl))) (show a1.eval (.tmp 109) = .string (strOfNums dg) from (ht 7 (by kernel_rfl))) (by simp only [str_size]; have := HSL1.out; have := HDL.out; simp only [List.length_append, List.length_cons, List.length_nil]; omega)) ⟨congrArg Value.string ((str_app _ _).trans (congrArg strOfNums HLE1.out)), fun h => absurd h (by decide), fun _ => World.grownBy.refl _ _⟩
            | 9, ho =>
              obtain rfl := Option.some.inj ho
              exact steps_conv_back HLW1.out (by have := HLL1.out; omega) rfl rfl (show a1.eval (.tmp 110) = .string (strOfNums LN1) from (ht 8 (by kernel_rfl))) (fun d w' hs hg => ⟨⟨_, d, rfl, hs, fun e => by cases e⟩, fun h => absurd h (by decide), fun _ => hg⟩)
            | 10, ho =>
              obtain rfl := Option.some.inj ho
              obtain ⟨p, d, h1, h2, h3⟩ := ht 9 (by kernel_rfl)
              refine StepsTo.enter rfl _ _ (run_read7 rfl (show a1.eval (.tmp 111) = .slice p LN1.length d from h1)) (read7_is p LN1.length d LN1 ⟨E1, BS1, RL1⟩ w1 h2 h3 HLL1.out HRD1.out) (fun e w' h => ?_)
              obtain ⟨ba, bn, bc, ra, rn, rc, ys, rfl, _, _, hrs, hru, _, hb⟩ := h
              exact ⟨_, rfl, ⟨ba, bn, bc, ra, rn, rc, ys, rfl, hrs, hru⟩, fun h => absurd h (by decide), fun _ => below_grew7 hb⟩
            | 11, ho =>
              obtain rfl := Option.some.inj ho
              exact StepsTo.move rfl (.tmp 112) (.inl rfl) ⟨(ht 10 (by kernel_rfl)), fun h => absurd h (by decide), fun _ => World.grownBy.refl _ _⟩
            | 12, ho =>
              obtain rfl := Option.some.inj ho
              obtain ⟨ba, bn, bc, ra, rn, rc, ys, h1, hrs, hru⟩ := ht 11 (by kernel_rfl)
              exact StepsTo.of_run rfl (run_extract0 rfl (show a1.eval (.tmp 101) = .tuple #[.agg #[.slice ba bn bc, .slice ra rn rc], .int .i64 E1] from h1)) ⟨⟨ba, bn, bc, ra, rn, rc, ys, rfl, hrs, hru⟩, fun h => absurd h (by decide), fun _ => World.grownBy.refl _ _⟩
            | 13, ho =>
              obtain rfl := Option.some.inj ho
              obtain ⟨ba, bn, bc, ra, rn, rc, ys, h1, hrs, hru⟩ := ht 11 (by kernel_rfl)
              exact StepsTo.of_run rfl (run_extract1 rfl (show a1.eval (.tmp 101) = .tuple #[.agg #[.slice ba bn bc, .slice ra rn rc], .int .i64 E1] from h1)) ⟨rfl, fun h => absurd h (by decide), fun _ => World.grownBy.refl _ _⟩
            | 14, ho =>
              obtain rfl := Option.some.inj ho
              exact StepsTo.of_run (v := .pointer (some ⟨w1.heap.size, 0, none⟩)) (w' := w1.alloc (.cells #[.slice none 0 0, .slice none 0 0] 32)) rfl (by simp only [execOp]; go_simp) ⟨⟨_, _, _, _, _, _, _, rfl, hJ.size, heap_alloc_new _ _⟩, fun h => absurd h (by decide), fun _ => World.grownBy_alloc _ _ _⟩
            | 15, ho =>
              obtain rfl := Option.some.inj ho
              obtain ⟨g, x, n, d, y, m, q, h1, h2, h3⟩ := ht 14 (by kernel_rfl)
              obtain ⟨ba, bn, bc, ra, rn, rc, ys, h4, hrs, hru⟩ := ht 12 (by kernel_rfl)
              have h1' : a1.eval (.tmp 17) = .pointer (some ⟨g, 0, none⟩) := h1
              have h4' : a1.eval (.tmp 113) = .agg #[.slice ba bn bc, .slice ra rn rc] := h4
              refine steps_store_g rfl 32 (.tmp 17) (.tmp 113) rfl h1' h4' h3 HI.out rfl (spec_cells _ _ _ _ _ _) ?_
              intro w' hw' hg' hsz'
              exact ⟨⟨g, ba, bn, bc, ra, rn, rc, ys, h1', h2, hw', hrs.box h3 hg', hru⟩, fun _ => ⟨g, _, _, _, _, _, _, _, _, _, _, _, _, h2, h3, hg', hw'⟩, fun h => absurd rfl h⟩
            | 16, ho =>
              obtain rfl := Option.some.inj ho
              exact StepsTo.move rfl (.tmp 114) (.inr rfl) ⟨(ht 13 (by kernel_rfl)), fun h => absurd h (by decide), fun _ => World.grownBy.refl _ _⟩
            | j1 + 17, ho => exact absurd (Array.getElem?_eq_some_iff.1 ho).1 (by simp)
          intro tm v4 hsz hJ hfr hto
          rw [act_lit2 tm (show tm.size = 219 from hsz)]
          simp only [List.range, List.range.loop, List.map_cons, List.map_nil]
          rw [hfr 0 (by kernel_rfl), hfr 1 (by kernel_rfl), hfr 2 (by kernel_rfl), hfr 3 (by kernel_rfl), hfr 4 (by kernel_rfl), hfr 5 (by kernel_rfl), hfr 6 (by kernel_rfl), hfr 7 (by kernel_rfl), hfr 8 (by kernel_rfl), hfr 9 (by kernel_rfl), hfr 10 (by kernel_rfl), hfr 11 (by kernel_rfl), hfr 12 (by kernel_rfl), hfr 13 (by kernel_rfl), hfr 14 (by kernel_rfl), hfr 15 (by kernel_rfl), hfr 16 (by kernel_rfl), hfr 19 (by kernel_rfl), hfr 20 (by kernel_rfl), hfr 21 (by kernel_rfl), hfr 22 (by kernel_rfl), hfr 23 (by kernel_rfl), hfr 24 (by kernel_rfl), hfr 25 (by kernel_rfl), hfr 26 (by kernel_rfl), hfr 27 (by kernel_rfl), hfr 28 (by kernel_rfl), hfr 29 (by kernel_rfl), hfr 30 (by kernel_rfl), hfr 31 (by kernel_rfl), hfr 32 (by kernel_rfl), hfr 33 (by kernel_rfl), hfr 34 (by kernel_rfl), hfr 35 (by kernel_rfl), hfr 36 (by kernel_rfl), hfr 37 (by kernel_rfl), hfr 38 (by kernel_rfl), hfr 39 (by kernel_rfl), hfr 40 (by kernel_rfl), hfr 41 (by kernel_rfl), hfr 42 (by kernel_rfl), hfr 43 (by kernel_rfl), hfr 44 (by kernel_rfl), hfr 45 (by kernel_rfl), hfr 46 (by kernel_rfl), hfr 47 (by kernel_rfl), hfr 48 (by kernel_rfl), hfr 49 (by kernel_rfl), hfr 50 (by kernel_rfl), hfr 51 (by kernel_rfl), hfr 52 (by kernel_rfl), hfr 53 (by kernel_rfl), hfr 54 (by kernel_rfl), hfr 55 (by kernel_rfl), hfr 56 (by kernel_rfl), hfr 57 (by kernel_rfl), hfr 58 (by kernel_rfl), hfr 59 (by kernel_rfl), hfr 60 (by kernel_rfl), hfr 61 (by kernel_rfl), hfr 62 (by kernel_rfl), hfr 63 (by kernel_rfl), hfr 64 (by kernel_rfl), hfr 65 (by kernel_rfl), hfr 66 (by kernel_rfl), hfr 67 (by kernel_rfl), hfr 68 (by kernel_rfl), hfr 69 (by kernel_rfl), hfr 70 (by kernel_rfl), hfr 71 (by kernel_rfl), hfr 72 (by kernel_rfl), hfr 73 (by kernel_rfl), hfr 74 (by kernel_rfl), hfr 75 (by kernel_rfl), hfr 76 (by kernel_rfl), hfr 77 (by kernel_rfl), hfr 78 (by kernel_rfl), hfr 79 (by kernel_rfl), hfr 80 (by kernel_rfl), hfr 81 (by kernel_rfl), hfr 82 (by kernel_rfl), hfr 83 (by kernel_rfl), hfr 84 (by kernel_rfl), hfr 85 (by kernel_rfl), hfr 86 (by kernel_rfl), hfr 87 (by kernel_rfl), hfr 88 (by kernel_rfl), hfr 89 (by kernel_rfl), hfr 90 (by kernel_rfl), hfr 91 (by kernel_rfl), hfr 92 (by kernel_rfl), hfr 93 (by kernel_rfl), hfr 94 (by kernel_rfl), hfr 95 (by kernel_rfl), hfr 96 (by kernel_rfl), hfr 97 (by kernel_rfl), hfr 98 (by kernel_rfl), hfr 99 (by kernel_rfl), hfr 100 (by kernel_rfl), hfr 115 (by kernel_rfl), hfr 116 (by kernel_rfl), hfr 117 (by kernel_rfl), hfr 118 (by kernel_rfl), hfr 119 (by kernel_rfl), hfr 120 (by kernel_rfl), hfr 121 (by kernel_rfl), hfr 122 (by kernel_rfl), hfr 123 (by kernel_rfl), hfr 124 (by kernel_rfl), hfr 125 (by kernel_rfl), hfr 126 (by kernel_rfl), hfr 127 (by kernel_rfl), hfr 128 (by kernel_rfl), hfr 129 (by kernel_rfl), hfr 130 (by kernel_rfl), hfr 131 (by kernel_rfl), hfr 132 (by kernel_rfl), hfr 133 (by kernel_rfl), hfr 134 (by kernel_rfl), hfr 135 (by kernel_rfl), hfr 136 (by kernel_rfl), hfr 137 (by kernel_rfl), hfr 138 (by kernel_rfl), hfr 139 (by kernel_rfl), hfr 140 (by kernel_rfl), hfr 141 (by kernel_rfl), hfr 142 (by kernel_rfl), hfr 143 (by kernel_rfl), hfr 144 (by kernel_rfl), hfr 145 (by kernel_rfl), hfr 146 (by kernel_rfl), hfr 147 (by kernel_rfl), hfr 148 (by kernel_rfl), hfr 149 (by kernel_rfl), hfr 150 (by kernel_rfl), hfr 151 (by kernel_rfl), hfr 152 (by kernel_rfl), hfr 153 (by kernel_rfl), hfr 154 (by kernel_rfl), hfr 155 (by kernel_rfl), hfr 156 (by kernel_rfl), hfr 157 (by kernel_rfl), hfr 158 (by kernel_rfl), hfr 159 (by kernel_rfl), hfr 160 (by kernel_rfl), hfr 161 (by kernel_rfl), hfr 162 (by kernel_rfl), hfr 163 (by kernel_rfl), hfr 164 (by kernel_rfl), hfr 165 (by kernel_rfl), hfr 166 (by kernel_rfl), hfr 167 (by kernel_rfl), hfr 168 (by kernel_rfl), hfr 169 (by kernel_rfl), hfr 170 (by kernel_rfl), hfr 171 (by kernel_rfl), hfr 172 (by kernel_rfl), hfr 173 (by kernel_rfl), hfr 174 (by kernel_rfl), hfr 175 (by kernel_rfl), hfr 176 (by kernel_rfl), hfr 177 (by kernel_rfl), hfr 178 (by kernel_rfl), hfr 179 (by kernel_rfl), hfr 180 (by kernel_rfl), hfr 181 (by kernel_rfl), hfr 182 (by kernel_rfl), hfr 183 (by kernel_rfl), hfr 184 (by kernel_rfl), hfr 185 (by kernel_rfl), hfr 186 (by kernel_rfl), hfr 187 (by kernel_rfl), hfr 188 (by kernel_rfl), hfr 189 (by kernel_rfl), hfr 190 (by kernel_rfl), hfr 191 (by kernel_rfl), hfr 192 (by kernel_rfl), hfr 193 (by kernel_rfl), hfr 194 (by kernel_rfl), hfr 195 (by kernel_rfl), hfr 196 (by kernel_rfl), hfr 197 (by kernel_rfl), hfr 198 (by kernel_rfl), hfr 199 (by kernel_rfl), hfr 200 (by kernel_rfl), hfr 201 (by kernel_rfl), hfr 202 (by kernel_rfl), hfr 203 (by kernel_rfl), hfr 204 (by kernel_rfl), hfr 205 (by kernel_rfl), hfr 206 (by kernel_rfl), hfr 207 (by kernel_rfl), hfr 208 (by kernel_rfl), hfr 209 (by kernel_rfl), hfr 210 (by kernel_rfl), hfr 211 (by kernel_rfl), hfr 212 (by kernel_rfl), hfr 213 (by kernel_rfl), hfr 214 (by kernel_rfl), hfr 215 (by kernel_rfl), hfr 216 (by kernel_rfl), hfr 217 (by kernel_rfl), hfr 218 (by kernel_rfl)]
          simp only [Array.getD_eq_getD_getElem?, List.getElem?_toArray, List.getElem?_cons_succ, List.getElem?_cons_zero, Option.getD_some]
          have t0 : (tm[102]?.getD undef) = .string (strOfNums [77, 65, 80, 32]) := by have h := hto 0 (by decide); simp only [Array.getD_eq_getD_getElem?] at h; exact h
          have t1 : (tm[103]?.getD undef) = .slice (some ⟨sg, 0, none⟩) sn sc := by have h := hto 1 (by decide); simp only [Array.getD_eq_getD_getElem?] at h; exact h
          have t2 : (tm[104]?.getD undef) = .string (strOfNums so) := by have h := hto 2 (by decide); simp only [Array.getD_eq_getD_getElem?] at h; exact h
          have t3 : (tm[105]?.getD undef) = .string (strOfNums ([77, 65, 80, 32] ++ so)) := by have h := hto 3 (by decide); simp only [Array.getD_eq_getD_getElem?] at h; exact h
          have t4 : (tm[106]?.getD undef) = .string (strOfNums (([77, 65, 80, 32] ++ so) ++ [32])) := by have h := hto 4 (by decide); simp only [Array.getD_eq_getD_getElem?] at h; exact h
          have t5 : (tm[107]?.getD undef) = .int .u64 (c : Int) := by have h := hto 5 (by decide); simp only [Array.getD_eq_getD_getElem?] at h; exact h
          have t6 : Str7 v4 dg (tm[108]?.getD undef) := by have h := hto 6 (by decide); simp only [Array.getD_eq_getD_getElem?] at h; exact h
          have t7 : (tm[109]?.getD undef) = .string (strOfNums dg) := by have h := hto 7 (by decide); simp only [Array.getD_eq_getD_getElem?] at h; exact h
          have t8 : (tm[110]?.getD undef) = .string (strOfNums LN1) := by have h := hto 8 (by decide); simp only [Array.getD_eq_getD_getElem?] at h; exact h
          have t9 : Str7 v4 LN1 (tm[111]?.getD undef) := by have h := hto 9 (by decide); simp only [Array.getD_eq_getD_getElem?] at h; exact h
          have t10 : Told7 v4 E1 RL1 (tm[112]?.getD undef) := by have h := hto 10 (by decide); simp only [Array.getD_eq_getD_getElem?] at h; exact h
          have t11 : Told7 v4 E1 RL1 (tm[101]?.getD undef) := by have h := hto 11 (by decide); simp only [Array.getD_eq_getD_getElem?] at h; exact h
          have t12 : Agg7 v4 RL1 (tm[113]?.getD undef) := by have h := hto 12 (by decide); simp only [Array.getD_eq_getD_getElem?] at h; exact h
          have t13 : (tm[114]?.getD undef) = .int .i64 E1 := by have h := hto 13 (by decide); simp only [Array.getD_eq_getD_getElem?] at h; exact h
          have t14 : Box7 v4 v3.heap.size (tm[17]?.getD undef) := by have h := hto 14 (by decide); simp only [Array.getD_eq_getD_getElem?] at h; exact h
          have t15 : Full7 v4 v3.heap.size RL1 (tm[17]?.getD undef) := by have h := hto 15 (by decide); simp only [Array.getD_eq_getD_getElem?] at h; exact h
          have t16 : (tm[18]?.getD undef) = .int .i64 E1 := by have h := hto 16 (by decide); simp only [Array.getD_eq_getD_getElem?] at h; exact h
          clear hto
          generalize tm[17]?.getD undef = y17 at *
          generalize tm[18]?.getD undef = y18 at *
          generalize tm[101]?.getD undef = y101 at *
          generalize tm[102]?.getD undef = y102 at *
          generalize tm[103]?.getD undef = y103 at *
          generalize tm[104]?.getD undef = y104 at *
          generalize tm[105]?.getD undef = y105 at *
          generalize tm[106]?.getD undef = y106 at *
          generalize tm[107]?.getD undef = y107 at *
          generalize tm[108]?.getD undef = y108 at *
          generalize tm[109]?.getD undef = y109 at *
          generalize tm[110]?.getD undef = y110 at *
          generalize tm[111]?.getD undef = y111 at *
          generalize tm[112]?.getD undef = y112 at *
          generalize tm[113]?.getD undef = y113 at *
          generalize tm[114]?.getD undef = y114 at *
          clear hfr hsz tm
          obtain rfl := t16
          obtain ⟨g1, ba1, bn1, bc1, ra1, rn1, rc1, ys1, rfl, hg1, hx1, hr1, hu1⟩ := t15
          have HB4 : Hid (Below w.heap.size w v4) := HB3.out.trans ((grown_below7 hJ).mono HB3.out.size)
          have HX1 := Lib.hid hx1
          have HR1 := Lib.hid hr1
          have HU1 := Lib.hid hu1
          have HSO2 : Hid (Sl .u8 v4 (some ⟨tg, 0, none⟩) tn tc to) := HSOb.out.below (grown_below7 hJ) (Nat.le_refl _)
          clear hg1 hx1 hr1 hu1 hJ HSO1 HSOb HLL1 HLW1 HRD1 HLE1 HB3 t0 t1 t2 t3 t4 t5 t6 t7 t8 t9 t10 t11 t12 t13 t14
          go_wp2_with fail
          refine wp_region_told2 HMX.out 15 [(116, 116), (117, 117), (118, 118), (119, 119), (120, 120), (121, 121), (122, 122), (123, 123), (124, 124), (125, 125), (126, 126), (115, 115), (127, 127), (128, 128), (19, 19), (19, 19), (20, 20)]
            (fun (j : Nat) (v u : Value) (w0 : World) => match j with
              | 0 => v = .string (strOfNums [77, 65, 80, 32])
              | 1 => v = .slice (some ⟨tg, 0, none⟩) tn tc
              | 2 => v = .string (strOfNums to)
              | 3 => v = .string (strOfNums ([77, 65, 80, 32] ++ to))
              | 4 => v = .string (strOfNums (([77, 65, 80, 32] ++ to) ++ [32]))
              | 5 => v = .int .u64 (c : Int)
              | 6 => Str7 w0 dg v
              | 7 => v = .string (strOfNums dg)
              | 8 => v = .string (strOfNums LN2)
              | 9 => Str7 w0 LN2 v
              | 10 => Told7 w0 E2 RL2 v
              | 11 => Told7 w0 E2 RL2 v
              | 12 => Agg7 w0 RL2 v
              | 13 => v = .int .i64 E2
              | 14 => Box7 w0 v4.heap.size v
              | 15 => Full7 w0 v4.heap.size RL2 v
              | 16 => v = .int .i64 E2
              | _ => True)
            (fun W => (v4).drew.grownBy W none) (fun _ w0 w' => Turn7 v4.heap.size w0 w') (by kernel_rfl) (by kernel_rfl) (World.grownBy.refl _ _) (fun _ _ h1 h2 => h1.trans h2) (fun _ _ _ h1 h2 => fresh_turn h1 h2) ?_ ?_ ?_ ?_
          · intro j v u w0 w' h hg
            match j, h with
            | 0, h => exact h
            | 1, h => exact h
            | 2, h => exact h
            | 3, h => exact h
            | 4, h => exact h
            | 5, h => exact h
            | 6, h => exact h.kept hg
            | 7, h => exact h
            | 8, h => exact h
            | 9, h => exact h.kept hg
            | 10, h => exact h.kept hg
            | 11, h => exact h.kept hg
            | 12, h => exact h.kept hg
            | 13, h => exact h
            | 14, h => exact h.kept hg
            | 15, h => exact h.kept hg
            | 16, h => exact h
            | j + 17, h => exact h
          · intro j v u a0 w0 w' hne h hr
            match j, hne, h with
            | 0, hne, h => exact h
            | 1, hne, h => exact h
            | 2, hne, h => exact h
            | 3, hne, h => exact h
            | 4, hne, h => exact h
            | 5, hne, h => exact h
            | 6, hne, h => exact h.turned hr
            | 7, hne, h => exact h
            | 8, hne, h => exact h
            | 9, hne, h => exact h.turned hr
            | 10, hne, h => exact h.turned hr
            | 11, hne, h => exact h.turned hr
            | 12, hne, h => exact h.turned hr
            | 13, hne, h => exact h
            | 14, hne, h => exact h.turned hr
            | 15, hne, h => exact absurd rfl hne
            | 16, hne, h => exact h
            | j + 17, _, h => exact h
          · intro i1 o ho a1 w1 hJ hw ht
            match i1, ho with
            | 0, ho =>
              obtain rfl := Option.some.inj ho
              exact StepsTo.move rfl (.tmp 16) (.inl rfl) ⟨(hw 16 (by kernel_rfl)), fun h => absurd h (by decide), fun _ => World.grownBy.refl _ _⟩
            | 1, ho =>
              obtain rfl := Option.some.inj ho
              exact StepsTo.move rfl (.tmp 14) (.inl rfl) ⟨(hw 14 (by kernel_rfl)), fun h => absurd h (by decide), fun _ => World.grownBy.refl _ _⟩
            | 2, ho =>
              obtain rfl := Option.some.inj ho
              exact StepsTo.of_run rfl (run_str rfl (show a1.eval (.tmp 117) = .slice (some ⟨tg, 0, none⟩) tn tc from (ht 1 (by kernel_rfl))) (HSO2.out.below (grown_below7 hJ) (Nat.le_refl _))) ⟨rfl, fun h => absurd h (by decide), fun _ => World.grownBy.refl _ _⟩
            | 3, ho =>
              obtain rfl := Option.some.inj ho
              exact StepsTo.of_run rfl (run_addS rfl (show a1.eval (.tmp 116) = .string (strOfNums [77, 65, 80, 32]) from (ht 0 (by kernel_rfl))) (show a1.eval (.tmp 118) = .string (strOfNums to) from (ht 2 (by kernel_rfl))) (by simp only [str_size]; have := HSL2.out; have := HDL.out; simp only [List.length_cons, List.length_nil]; omega)) ⟨congrArg Value.string (str_app _ _), fun h => absurd h (by decide), fun _ => World.grownBy.refl _ _⟩
            | 4, ho =>
              obtain rfl := Option.some.inj ho
              exact StepsTo.of_run rfl (run_addS rfl (show a1.eval (.tmp 119) = .string (strOfNums ([77, 65, 80, 32] ++ to)) from (ht 3 (by kernel_rfl))) (show a1.eval (.const (.string ⟨#[32]⟩)) = .string (strOfNums [32]) from rfl) (by simp only [str_size]; have := HSL2.out; have := HDL.out; simp only [List.length_append, List.length_cons, List.length_nil]; omega)) ⟨congrArg Value.string (str_app _ _), fun h => absurd h (by decide), fun _ => World.grownBy.refl _ _⟩
            | 5, ho =>
              obtain rfl := Option.some.inj ho
              exact StepsTo.move rfl (.tmp 1) (.inl rfl) ⟨(hw 1 (by kernel_rfl)), fun h => absurd h (by decide), fun _ => World.grownBy.refl _ _⟩
            | 6, ho =>
              obtain rfl := Option.some.inj ho
              refine StepsTo.enter rfl _ _ (run_numWrite rfl (show a1.eval (.tmp 121) = .int .u64 (c : Int) from (ht 5 (by kernel_rfl)))) (write_any c HC64.out w1) (fun e w' h => ?_)
              obtain ⟨a', n', c', rfl, hn, hs, hnil, hb⟩ := h
              rw [HDG.out] at hn hs
              subst hn
              exact ⟨_, rfl, ⟨a', c', rfl, Sl.of_owns (k := .u8) hs HDW.out rfl, hnil⟩, fun h => absurd h (by decide), fun _ => below_grew7 hb⟩
            | 7, ho =>
              obtain rfl := Option.some.inj ho
              obtain ⟨p, d, h1, h2, _⟩ := ht 6 (by kernel_rfl)
              exact StepsTo.of_run rfl (run_str rfl (show a1.eval (.tmp 122) = .slice p dg.length d from h1) h2) ⟨rfl, fun h => absurd h (by decide), fun _ => World.grownBy.refl _ _⟩
            | 8, ho =>
              obtain rfl := Option.some.inj ho
              exact StepsTo.of_run rfl (run_addS rfl (show a1.eval (.tmp 120) = .string (strOfNums (([77, 65, 80, 32] ++ to) ++ [32])) from (ht 4 (by kernel_rfl))) (show a1.eval (.tmp 123) = .string (strOfNums dg) from (ht 7 (by kernel_rfl))) (by simp only [str_size]; have := HSL2.out; have := HDL.out; simp only [List.length_append, List.length_cons, List.length_nil]; omega)) ⟨congrArg Value.string ((str_app _ _).trans (congrArg strOfNums HLE2.out)), fun h => absurd h (by decide), fun _ => World.grownBy.refl _ _⟩
            | 9, ho =>
              obtain rfl := Option.some.inj ho
              exact steps_conv_back HLW2.out (by have := HLL2.out; omega) rfl rfl (show a1.eval (.tmp 124) = .string (strOfNums LN2) from (ht 8 (by kernel_rfl))) (fun d w' hs hg => ⟨⟨_, d, rfl, hs, fun e => by cases e⟩, fun h => absurd h (by decide), fun _ => hg⟩)
            | 10, ho =>
              obtain rfl := Option.some.inj ho
              obtain ⟨p, d, h1, h2, h3⟩ := ht 9 (by kernel_rfl)
              refine StepsTo.enter rfl _ _ (run_read7 rfl (show a1.eval (.tmp 125) = .slice p LN2.length d from h1)) (read7_is p LN2.length d LN2 ⟨E2, BS2, RL2⟩ w1 h2 h3 HLL2.out HRD2.out) (fun e w' h => ?_)
              obtain ⟨ba, bn, bc, ra, rn, rc, ys, rfl, _, _, hrs, hru, _, hb⟩ := h
              exact ⟨_, rfl, ⟨ba, bn, bc, ra, rn, rc, ys, rfl, hrs, hru⟩, fun h => absurd h (by decide), fun _ => below_grew7 hb⟩
            | 11, ho =>
              obtain rfl := Option.some.inj ho
              exact StepsTo.move rfl (.tmp 126) (.inl rfl) ⟨(ht 10 (by kernel_rfl)), fun h => absurd h (by decide), fun _ => World.grownBy.refl _ _⟩
            | 12, ho =>
              obtain rfl := Option.some.inj ho
              obtain ⟨ba, bn, bc, ra, rn, rc, ys, h1, hrs, hru⟩ := ht 11 (by kernel_rfl)
              exact StepsTo.of_run rfl (run_extract0 rfl (show a1.eval (.tmp 115) = .tuple #[.agg #[.slice ba bn bc, .slice ra rn rc], .int .i64 E2] from h1)) ⟨⟨ba, bn, bc, ra, rn, rc, ys, rfl, hrs, hru⟩, fun h => absurd h (by decide), fun _ => World.grownBy.refl _ _⟩
            | 13, ho =>
              obtain rfl := Option.some.inj ho
              obtain ⟨ba, bn, bc, ra, rn, rc, ys, h1, hrs, hru⟩ := ht 11 (by kernel_rfl)
              exact StepsTo.of_run rfl (run_extract1 rfl (show a1.eval (.tmp 115) = .tuple #[.agg #[.slice ba bn bc, .slice ra rn rc], .int .i64 E2] from h1)) ⟨rfl, fun h => absurd h (by decide), fun _ => World.grownBy.refl _ _⟩
            | 14, ho =>
              obtain rfl := Option.some.inj ho
              exact StepsTo.of_run (v := .pointer (some ⟨w1.heap.size, 0, none⟩)) (w' := w1.alloc (.cells #[.slice none 0 0, .slice none 0 0] 32)) rfl (by simp only [execOp]; go_simp) ⟨⟨_, _, _, _, _, _, _, rfl, hJ.size, heap_alloc_new _ _⟩, fun h => absurd h (by decide), fun _ => World.grownBy_alloc _ _ _⟩
            | 15, ho =>
              obtain rfl := Option.some.inj ho
              obtain ⟨g, x, n, d, y, m, q, h1, h2, h3⟩ := ht 14 (by kernel_rfl)
              obtain ⟨ba, bn, bc, ra, rn, rc, ys, h4, hrs, hru⟩ := ht 12 (by kernel_rfl)
              have h1' : a1.eval (.tmp 19) = .pointer (some ⟨g, 0, none⟩) := h1
              have h4' : a1.eval (.tmp 127) = .agg #[.slice ba bn bc, .slice ra rn rc] := h4
              refine steps_store_g rfl 32 (.tmp 19) (.tmp 127) rfl h1' h4' h3 HI.out rfl (spec_cells _ _ _ _ _ _) ?_
              intro w' hw' hg' hsz'
              exact ⟨⟨g, ba, bn, bc, ra, rn, rc, ys, h1', h2, hw', hrs.box h3 hg', hru⟩, fun _ => ⟨g, _, _, _, _, _, _, _, _, _, _, _, _, h2, h3, hg', hw'⟩, fun h => absurd rfl h⟩
            | 16, ho =>
              obtain rfl := Option.some.inj ho
              exact StepsTo.move rfl (.tmp 128) (.inr rfl) ⟨(ht 13 (by kernel_rfl)), fun h => absurd h (by decide), fun _ => World.grownBy.refl _ _⟩
            | j1 + 17, ho => exact absurd (Array.getElem?_eq_some_iff.1 ho).1 (by simp)
          intro tm v5 hsz hJ hfr hto
          rw [act_lit2 tm (show tm.size = 219 from hsz)]
          simp only [List.range, List.range.loop, List.map_cons, List.map_nil]
          rw [hfr 0 (by kernel_rfl), hfr 1 (by kernel_rfl), hfr 2 (by kernel_rfl), hfr 3 (by kernel_rfl), hfr 4 (by kernel_rfl), hfr 5 (by kernel_rfl), hfr 6 (by kernel_rfl), hfr 7 (by kernel_rfl), hfr 8 (by kernel_rfl), hfr 9 (by kernel_rfl), hfr 10 (by kernel_rfl), hfr 11 (by kernel_rfl), hfr 12 (by kernel_rfl), hfr 13 (by kernel_rfl), hfr 14 (by kernel_rfl), hfr 15 (by kernel_rfl), hfr 16 (by kernel_rfl), hfr 17 (by kernel_rfl), hfr 18 (by kernel_rfl), hfr 21 (by kernel_rfl), hfr 22 (by kernel_rfl), hfr 23 (by kernel_rfl), hfr 24 (by kernel_rfl), hfr 25 (by kernel_rfl), hfr 26 (by kernel_rfl), hfr 27 (by kernel_rfl), hfr 28 (by kernel_rfl), hfr 29 (by kernel_rfl), hfr 30 (by kernel_rfl), hfr 31 (by kernel_rfl), hfr 32 (by kernel_rfl), hfr 33 (by kernel_rfl), hfr 34 (by kernel_rfl), hfr 35 (by kernel_rfl), hfr 36 (by kernel_rfl), hfr 37 (by kernel_rfl), hfr 38 (by kernel_rfl), hfr 39 (by kernel_rfl), hfr 40 (by kernel_rfl), hfr 41 (by kernel_rfl), hfr 42 (by kernel_rfl), hfr 43 (by kernel_rfl), hfr 44 (by kernel_rfl), hfr 45 (by kernel_rfl), hfr 46 (by kernel_rfl), hfr 47 (by kernel_rfl), hfr 48 (by kernel_rfl), hfr 49 (by kernel_rfl), hfr 50 (by kernel_rfl), hfr 51 (by kernel_rfl), hfr 52 (by kernel_rfl), hfr 53 (by kernel_rfl), hfr 54 (by kernel_rfl), hfr 55 (by kernel_rfl), hfr 56 (by kernel_rfl), hfr 57 (by kernel_rfl), hfr 58 (by kernel_rfl), hfr 59 (by kernel_rfl), hfr 60 (by kernel_rfl), hfr 61 (by kernel_rfl), hfr 62 (by kernel_rfl), hfr 63 (by kernel_rfl), hfr 64 (by kernel_rfl), hfr 65 (by kernel_rfl), hfr 66 (by kernel_rfl), hfr 67 (by kernel_rfl), hfr 68 (by kernel_rfl), hfr 69 (by kernel_rfl), hfr 70 (by kernel_rfl), hfr 71 (by kernel_rfl), hfr 72 (by kernel_rfl), hfr 73 (by kernel_rfl), hfr 74 (by kernel_rfl), hfr 75 (by kernel_rfl), hfr 76 (by kernel_rfl), hfr 77 (by kernel_rfl), hfr 78 (by kernel_rfl), hfr 79 (by kernel_rfl), hfr 80 (by kernel_rfl), hfr 81 (by kernel_rfl), hfr 82 (by kernel_rfl), hfr 83 (by kernel_rfl), hfr 84 (by kernel_rfl), hfr 85 (by kernel_rfl), hfr 86 (by kernel_rfl), hfr 87 (by kernel_rfl), hfr 88 (by kernel_rfl), hfr 89 (by kernel_rfl), hfr 90 (by kernel_rfl), hfr 91 (by kernel_rfl), hfr 92 (by kernel_rfl), hfr 93 (by kernel_rfl), hfr 94 (by kernel_rfl), hfr 95 (by kernel_rfl), hfr 96 (by kernel_rfl), hfr 97 (by kernel_rfl), hfr 98 (by kernel_rfl), hfr 99 (by kernel_rfl), hfr 100 (by kernel_rfl), hfr 101 (by kernel_rfl), hfr 102 (by kernel_rfl), hfr 103 (by kernel_rfl), hfr 104 (by kernel_rfl), hfr 105 (by kernel_rfl), hfr 106 (by kernel_rfl), hfr 107 (by kernel_rfl), hfr 108 (by kernel_rfl), hfr 109 (by kernel_rfl), hfr 110 (by kernel_rfl), hfr 111 (by kernel_rfl), hfr 112 (by kernel_rfl), hfr 113 (by kernel_rfl), hfr 114 (by kernel_rfl), hfr 129 (by kernel_rfl), hfr 130 (by kernel_rfl), hfr 131 (by kernel_rfl), hfr 132 (by kernel_rfl), hfr 133 (by kernel_rfl), hfr 134 (by kernel_rfl), hfr 135 (by kernel_rfl), hfr 136 (by kernel_rfl), hfr 137 (by kernel_rfl), hfr 138 (by kernel_rfl), hfr 139 (by kernel_rfl), hfr 140 (by kernel_rfl), hfr 141 (by kernel_rfl), hfr 142 (by kernel_rfl), hfr 143 (by kernel_rfl), hfr 144 (by kernel_rfl), hfr 145 (by kernel_rfl), hfr 146 (by kernel_rfl), hfr 147 (by kernel_rfl), hfr 148 (by kernel_rfl), hfr 149 (by kernel_rfl), hfr 150 (by kernel_rfl), hfr 151 (by kernel_rfl), hfr 152 (by kernel_rfl), hfr 153 (by kernel_rfl), hfr 154 (by kernel_rfl), hfr 155 (by kernel_rfl), hfr 156 (by kernel_rfl), hfr 157 (by kernel_rfl), hfr 158 (by kernel_rfl), hfr 159 (by kernel_rfl), hfr 160 (by kernel_rfl), hfr 161 (by kernel_rfl), hfr 162 (by kernel_rfl), hfr 163 (by kernel_rfl), hfr 164 (by kernel_rfl), hfr 165 (by kernel_rfl), hfr 166 (by kernel_rfl), hfr 167 (by kernel_rfl), hfr 168 (by kernel_rfl), hfr 169 (by kernel_rfl), hfr 170 (by kernel_rfl), hfr 171 (by kernel_rfl), hfr 172 (by kernel_rfl), hfr 173 (by kernel_rfl), hfr 174 (by kernel_rfl), hfr 175 (by kernel_rfl), hfr 176 (by kernel_rfl), hfr 177 (by kernel_rfl), hfr 178 (by kernel_rfl), hfr 179 (by kernel_rfl), hfr 180 (by kernel_rfl), hfr 181 (by kernel_rfl), hfr 182 (by kernel_rfl), hfr 183 (by kernel_rfl), hfr 184 (by kernel_rfl), hfr 185 (by kernel_rfl), hfr 186 (by kernel_rfl), hfr 187 (by kernel_rfl), hfr 188 (by kernel_rfl), hfr 189 (by kernel_rfl), hfr 190 (by kernel_rfl), hfr 191 (by kernel_rfl), hfr 192 (by kernel_rfl), hfr 193 (by kernel_rfl), hfr 194 (by kernel_rfl), hfr 195 (by kernel_rfl), hfr 196 (by kernel_rfl), hfr 197 (by kernel_rfl), hfr 198 (by kernel_rfl), hfr 199 (by kernel_rfl), hfr 200 (by kernel_rfl), hfr 201 (by kernel_rfl), hfr 202 (by kernel_rfl), hfr 203 (by kernel_rfl), hfr 204 (by kernel_rfl), hfr 205 (by kernel_rfl), hfr 206 (by kernel_rfl), hfr 207 (by kernel_rfl), hfr 208 (by kernel_rfl), hfr 209 (by kernel_rfl), hfr 210 (by kernel_rfl), hfr 211 (by kernel_rfl), hfr 212 (by kernel_rfl), hfr 213 (by kernel_rfl), hfr 214 (by kernel_rfl), hfr 215 (by kernel_rfl), hfr 216 (by kernel_rfl), hfr 217 (by kernel_rfl), hfr 218 (by kernel_rfl)]
          simp only [Array.getD_eq_getD_getElem?, List.getElem?_toArray, List.getElem?_cons_succ, List.getElem?_cons_zero, Option.getD_some]
          have t0 : (tm[116]?.getD undef) = .string (strOfNums [77, 65, 80, 32]) := by have h := hto 0 (by decide); simp only [Array.getD_eq_getD_getElem?] at h; exact h
          have t1 : (tm[117]?.getD undef) = .slice (some ⟨tg, 0, none⟩) tn tc := by have h := hto 1 (by decide); simp only [Array.getD_eq_getD_getElem?] at h; exact h
          have t2 : (tm[118]?.getD undef) = .string (strOfNums to) := by have h := hto 2 (by decide); simp only [Array.getD_eq_getD_getElem?] at h; exact h
          have t3 : (tm[119]?.getD undef) = .string (strOfNums ([77, 65, 80, 32] ++ to)) := by have h := hto 3 (by decide); simp only [Array.getD_eq_getD_getElem?] at h; exact h
          have t4 : (tm[120]?.getD undef) = .string (strOfNums (([77, 65, 80, 32] ++ to) ++ [32])) := by have h := hto 4 (by decide); simp only [Array.getD_eq_getD_getElem?] at h; exact h
          have t5 : (tm[121]?.getD undef) = .int .u64 (c : Int) := by have h := hto 5 (by decide); simp only [Array.getD_eq_getD_getElem?] at h; exact h
          have t6 : Str7 v5 dg (tm[122]?.getD undef) := by have h := hto 6 (by decide); simp only [Array.getD_eq_getD_getElem?] at h; exact h
          have t7 : (tm[123]?.getD undef) = .string (strOfNums dg) := by have h := hto 7 (by decide); simp only [Array.getD_eq_getD_getElem?] at h; exact h
          have t8 : (tm[124]?.getD undef) = .string (strOfNums LN2) := by have h := hto 8 (by decide); simp only [Array.getD_eq_getD_getElem?] at h; exact h
          have t9 : Str7 v5 LN2 (tm[125]?.getD undef) := by have h := hto 9 (by decide); simp only [Array.getD_eq_getD_getElem?] at h; exact h
          have t10 : Told7 v5 E2 RL2 (tm[126]?.getD undef) := by have h := hto 10 (by decide); simp only [Array.getD_eq_getD_getElem?] at h; exact h
          have t11 : Told7 v5 E2 RL2 (tm[115]?.getD undef) := by have h := hto 11 (by decide); simp only [Array.getD_eq_getD_getElem?] at h; exact h
          have t12 : Agg7 v5 RL2 (tm[127]?.getD undef) := by have h := hto 12 (by decide); simp only [Array.getD_eq_getD_getElem?] at h; exact h
          have t13 : (tm[128]?.getD undef) = .int .i64 E2 := by have h := hto 13 (by decide); simp only [Array.getD_eq_getD_getElem?] at h; exact h
          have t14 : Box7 v5 v4.heap.size (tm[19]?.getD undef) := by have h := hto 14 (by decide); simp only [Array.getD_eq_getD_getElem?] at h; exact h
          have t15 : Full7 v5 v4.heap.size RL2 (tm[19]?.getD undef) := by have h := hto 15 (by decide); simp only [Array.getD_eq_getD_getElem?] at h; exact h
          have t16 : (tm[20]?.getD undef) = .int .i64 E2 := by have h := hto 16 (by decide); simp only [Array.getD_eq_getD_getElem?] at h; exact h
          clear hto
          generalize tm[19]?.getD undef = y19 at *
          generalize tm[20]?.getD undef = y20 at *
          generalize tm[115]?.getD undef = y115 at *
          generalize tm[116]?.getD undef = y116 at *
          generalize tm[117]?.getD undef = y117 at *
          generalize tm[118]?.getD undef = y118 at *
          generalize tm[119]?.getD undef = y119 at *
          generalize tm[120]?.getD undef = y120 at *
          generalize tm[121]?.getD undef = y121 at *
          generalize tm[122]?.getD undef = y122 at *
          generalize tm[123]?.getD undef = y123 at *
          generalize tm[124]?.getD undef = y124 at *
          generalize tm[125]?.getD undef = y125 at *
          generalize tm[126]?.getD undef = y126 at *
          generalize tm[127]?.getD undef = y127 at *
          generalize tm[128]?.getD undef = y128 at *
          clear hfr hsz tm
          obtain rfl := t16
          obtain ⟨g2, ba2, bn2, bc2, ra2, rn2, rc2, ys2, rfl, hg2, hx2, hr2, hu2⟩ := t15
          have hb5 := grown_below7 hJ
          have HB5 : Hid (Below w.heap.size w v5) := HB4.out.trans (hb5.mono HB4.out.size)
          have HX1' := Lib.hid ((hb5.block _ (Array.getElem?_eq_some_iff.1 HX1.out).1).trans HX1.out)
          have HR1' := Lib.hid (HR1.out.below hb5 (Nat.le_refl _))
          have HX2 := Lib.hid hx2
          have HR2 := Lib.hid hr2
          have HU2 := Lib.hid hu2
          have HN1 : Hid (rn1 = RL1.length) := rs_len HR1.out HU1.out
          have HN2 : Hid (rn2 = RL2.length) := rs_len hr2 hu2
          have hc1 : v5.cell? ⟨g1, 1, none⟩ = some (.slice ra1 rn1 rc1) := by simp [World.cell?, HX1'.out]
          clear hg2 hx2 hr2 hu2 hJ hb5 HSO2 HLL2 HLW2 HRD2 HLE2 HX1 HR1 t0 t1 t2 t3 t4 t5 t6 t7 t8 t9 t10 t11 t12 t13 t14
          have h1 := HSP1.out
          have h2 := HSP2.out
          simp only [Spec.Sp.mk.injEq] at h1 h2
          obtain ⟨rfl, rfl, rfl⟩ := h1
          obtain ⟨rfl, rfl, rfl⟩ := h2
          have HM1 : Hid (rn1 ≤ 300) := by
            show rn1 ≤ 300
            rw [HN1.out]
            have := Spec.class_few (c := (c : Int)) (l := xs) (by rw [HXL.out]; exact hi12); omega
          have HM2 : Hid (rn2 ≤ 300) := by
            show rn2 ≤ 300
            rw [HN2.out]
            have := Spec.class_few (c := (c : Int)) (l := ts) (by rw [HTL.out]; exact hi12); omega
          obtain ⟨NL, hNL⟩ : ∃ NL, nrm (ruls ys1) = NL := ⟨_, rfl⟩
          have HNB : Hid (∀ r ∈ NL, ∃ a b, r = (⟨[a], [b], (c : Int)⟩ : Rul) ∧ (⟨[b], [a], (c : Int)⟩ : Rul) ∈ NL) := by
            show ∀ r ∈ NL, ∃ a b, r = (⟨[a], [b], (c : Int)⟩ : Rul) ∧ (⟨[b], [a], (c : Int)⟩ : Rul) ∈ NL
            rw [← hNL, HU1.out]
            exact Spec.both_nrm (Spec.both_class HFA.out HG.out (by have := HCM.out; omega))
          have HNL := Lib.hid hNL
          clear hNL HSP1 HSP2 HN1 HN2
          go_wp2_with fail
          refine (norm_any _ _ _ ys1 _ HR1'.out HM1.out).mono ?_
          rintro e v6 ⟨na, nn, nc, outs, rfl, hro, huo, _, _, hb6⟩
          have HUO : Hid (ruls outs = NL) := huo.trans HNL.out
          have HNN : Hid (NL.length = nn) := (rs_len hro (huo.trans HNL.out)).symm
          have hncm := hro.2.2.1
          unfold maxLen at hncm
          have hnnc := hro.2.1
          have HK0 : Hid (Below w.heap.size w v6 ∧ v6.heap[g2]? = some (.cells #[.slice ba2 bn2 bc2, .slice ra2 rn2 rc2] 32 (0, 0)) ∧ Rs v6 na nn nc outs ∧ Rs v6 ra2 rn2 rc2 ys2) :=
            ⟨HB5.out.trans (hb6.mono HB5.out.size), (hb6.block _ (Array.getElem?_eq_some_iff.1 HX2.out).1).trans HX2.out, hro, HR2.out.below hb6 (Nat.le_refl _)⟩
          clear hro huo hb6 hc1 HX2 HR2 HX1' HR1' HB5
          go_wp2
          go_loopw [22] (fun jx wr => ∃ jr : Nat, jr ≤ nn ∧ jx = .int .i64 (jr : Int) ∧ Hid (Below w.heap.size w wr ∧ wr.heap[g2]? = some (.cells #[.slice ba2 bn2 bc2, .slice ra2 rn2 rc2] 32 (0, 0)) ∧ Rs wr na nn nc outs ∧ Rs wr ra2 rn2 rc2 ys2)) (fun jx _ => nn - (intOf jx).toNat)
          case atStart => exact ⟨0, Nat.zero_le _, rfl, HK0.out⟩
          case round =>
            obtain ⟨jr, hj, rfl, HK⟩ := hrel
            by_cases hjl : jr < nn
            · have hjli : (jr : Int) < (nn : Int) := by omega
              obtain ⟨b1, o1, la, ln, lc, LL, ra, rn, rc, RR, C2, hna, hb1, hx1, hx2, hx3, hsl, hsr, hC0, hC1, hz1⟩ := HK.out.2.2.1.one jr hjl
              subst hna
              obtain ⟨x, y, hxy, htw⟩ := HNB.out ⟨LL, RR, C2⟩ (by
                have h := ruls_in (xs := outs) (i := jr) (by rw [HK.out.2.2.1.1]; exact hjl)
                rw [hz1, HUO.out] at h
                exact h)
              obtain ⟨rfl, rfl, rfl⟩ : LL = [x] ∧ RR = [y] ∧ C2 = (c : Int) := ⟨congrArg Rul.L hxy, congrArg Rul.R hxy, congrArg Rul.C hxy⟩
              obtain rfl : ln = 1 := hsl.1.symm
              obtain rfl : rn = 1 := hsr.1.symm
              have HTW := Lib.hid htw
              have HCA := Lib.hid hx1
              have HCB := Lib.hid hx2
              have HCC := Lib.hid hx3
              have HSXa := Lib.hid hsl
              have HSYa := Lib.hid hsr
              have HBL := Lib.hid hb1
              clear hxy htw hx1 hx2 hx3 hsl hsr hb1 hz1 hC0 hC1 HK0
              generalize wr = wo at *
              go_wp2
              go_loopw [23, 24] (fun hv qx wi => ∃ (q : Nat) (h : Bool), q ≤ nn ∧ qx = .int .i64 (q : Int) ∧ hv = .bool h ∧ Hid (Spec.hasT NL x y q = h) ∧ Hid (Below w.heap.size w wi ∧ wi.heap[g2]? = some (.cells #[.slice ba2 bn2 bc2, .slice ra2 rn2 rc2] 32 (0, 0)) ∧ Rs wi (some ⟨b1, o1, none⟩) nn nc outs ∧ Rs wi ra2 rn2 rc2 ys2) ∧ Hid (Below wo.heap.size wo wi)) (fun _ qx _ => nn - (intOf qx).toNat)
              case atStart => exact ⟨0, false, Nat.zero_le _, rfl, rfl, (by first | trivial | rfl | simp [Spec.hasT]), HK.out, Below.refl _ _⟩
              case round =>
                obtain ⟨q, h, hq, rfl, rfl, HH, HKI, HBI⟩ := hrel
                have HA1 := Lib.hid ((HBI.out.cell (p := ⟨b1, o1 + jr * 3, none⟩) HBL.out).trans HCA.out)
                have HA2 := Lib.hid ((HBI.out.cell (p := ⟨b1, o1 + jr * 3 + 1, none⟩) HBL.out).trans HCB.out)
                have HA3 := Lib.hid ((HBI.out.cell (p := ⟨b1, o1 + jr * 3 + 2, none⟩) HBL.out).trans HCC.out)
                have HBW : Hid (b1 < wr.heap.size) := Nat.lt_of_lt_of_le HBL.out HBI.out.size
                by_cases hql : q < nn
                · have hqli : (q : Int) < (nn : Int) := by omega
                  obtain ⟨b2, o2, ka, kn, kc, KL, ja, jn, jc, JR, C3, hna2, hb2, hy1, hy2, hy3, hsl2, hsr2, _, _, hz2⟩ := HKI.out.2.2.1.one q hql
                  simp only [Option.some.injEq, Addr.mk.injEq, and_true] at hna2
                  obtain ⟨rfl, rfl⟩ := hna2
                  have HNX : Hid (Spec.hasT NL x y (q + 1) = (h || decide (KL = [y] ∧ JR = [x]))) := by
                    show Spec.hasT NL x y (q + 1) = _
                    rw [Spec.hasT_next (s := ⟨KL, JR, C3⟩) (by rw [HNN.out]; exact hql) (by rw [← HUO.out, ruls_at, hz2]; rfl), HH.out]
                  have HSX := Lib.hid (HSXa.out.below HBI.out (Nat.le_refl _))
                  have HSY := Lib.hid (HSYa.out.below HBI.out (Nat.le_refl _))
                  have HSK := Lib.hid hsl2
                  have HSJ := Lib.hid hsr2
                  have HQ1 := Lib.hid hy1
                  have HQ2 := Lib.hid hy2
                  clear hb2 hy1 hy2 hy3 hsl2 hsr2 hz2
                  cases h
                  · obtain ⟨s1, hs1⟩ : ∃ b, decide ([x] = JR) = b := ⟨_, rfl⟩
                    cases s1
                    · have HS1 := Lib.hid hs1
                      have HRES : Hid (Spec.hasT NL x y (q + 1) = false) := by
                        show Spec.hasT NL x y (q + 1) = false
                        rw [HNX.out, Bool.false_or, decide_eq_false]
                        rintro ⟨_, e⟩
                        rw [e] at hs1
                        simp at hs1
                      clear hs1
                      go_wp2_with fail
                      refine wp_region_told2 HMX.out 28 [(144, 144), (145, 145), (146, 146), (147, 147), (148, 148), (149, 149), (150, 150), (151, 151), (152, 152), (153, 153), (154, 154), (155, 155), (156, 156), (157, 157), (158, 158), (159, 159), (160, 160), (161, 161), (162, 162), (163, 163), (164, 164), (165, 165), (166, 166), (167, 167), (168, 168), (169, 169), (170, 170), (23, 23)]
                        (fun (j : Nat) (v u : Value) (w0 : World) => match j with
                          | 0 => v = .bool false
                          | 1 => v = .bool false
                          | 2 => v = .slice (some ⟨b1, o1, none⟩) nn nc
                          | 3 => v = .int .i64 (jr : Int)
                          | 4 => v = .pointer (some ⟨b1, o1 + jr * 3, none⟩)
                          | 5 => v = .pointer (some ⟨b1, o1 + jr * 3, none⟩)
                          | 6 => v = .slice la 1 lc
                          | 7 => v = .slice (some ⟨b1, o1, none⟩) nn nc
                          | 8 => v = .int .i64 (q : Int)
                          | 9 => v = .pointer (some ⟨b1, o1 + q * 3, none⟩)
                          | 10 => v = .pointer (some ⟨b1, o1 + q * 3 + 1, none⟩)
                          | 11 => v = .slice ja jn jc
                          | 12 => v = .bool false
                          | 13 => v = .bool false
                          | 14 => True
                          | 15 => True
                          | 16 => True
                          | 17 => True
                          | 18 => True
                          | 19 => True
                          | 20 => True
                          | 21 => True
                          | 22 => True
                          | 23 => True
                          | 24 => True
                          | 25 => v = .bool false
                          | 26 => v = .bool false
                          | 27 => v = .bool false
                          | _ => True)
                        (fun W => (wr).drew.grownBy W none) (fun _ _ _ => False) (by kernel_rfl) (by kernel_rfl) (World.grownBy.refl _ _) (fun _ _ h1 h2 => h1.trans h2) (fun _ _ _ _ h => h.elim) ?_ ?_ ?_ ?_
                      · intro j v u w0 w' h hg
                        match j, h with
                        | 0, h => exact h
                        | 1, h => exact h
                        | 2, h => exact h
                        | 3, h => exact h
                        | 4, h => exact h
                        | 5, h => exact h
                        | 6, h => exact h
                        | 7, h => exact h
                        | 8, h => exact h
                        | 9, h => exact h
                        | 10, h => exact h
                        | 11, h => exact h
                        | 12, h => exact h
                        | 13, h => exact h
                        | 14, h => trivial
                        | 15, h => trivial
                        | 16, h => trivial
                        | 17, h => trivial
                        | 18, h => trivial
                        | 19, h => trivial
                        | 20, h => trivial
                        | 21, h => trivial
                        | 22, h => trivial
                        | 23, h => trivial
                        | 24, h => trivial
                        | 25, h => exact h
                        | 26, h => exact h
                        | 27, h => exact h
                        | j + 28, h => exact h
                      · intro j v u a0 w0 w' hne h hr
                        match j, hne, h with
                        | 0, hne, h => exact h
                        | 1, hne, h => exact h
                        | 2, hne, h => exact h
                        | 3, hne, h => exact h
                        | 4, hne, h => exact h
                        | 5, hne, h => exact h
                        | 6, hne, h => exact h
                        | 7, hne, h => exact h
                        | 8, hne, h => exact h
                        | 9, hne, h => exact h
                        | 10, hne, h => exact h
                        | 11, hne, h => exact h
                        | 12, hne, h => exact h
                        | 13, hne, h => exact h
                        | 14, hne, h => trivial
                        | 15, hne, h => trivial
                        | 16, hne, h => trivial
                        | 17, hne, h => trivial
                        | 18, hne, h => trivial
                        | 19, hne, h => trivial
                        | 20, hne, h => trivial
                        | 21, hne, h => trivial
                        | 22, hne, h => trivial
                        | 23, hne, h => trivial
                        | 24, hne, h => trivial
                        | 25, hne, h => exact h
                        | 26, hne, h => exact h
                        | 27, hne, h => exact h
                        | j + 28, _, h => exact h
                      · intro i1 o ho a1 w1 hJ hw ht
                        match i1, ho with
                        | 0, ho =>
                          obtain rfl := Option.some.inj ho
                          exact StepsTo.move rfl (.tmp 23) (.inl rfl) ⟨(show a1.eval (.tmp 23) = .bool false from (hw 23 (by kernel_rfl))), fun h => absurd h (by decide), fun _ => World.grownBy.refl _ _⟩
                        | 1, ho =>
                          obtain rfl := Option.some.inj ho
                          exact StepsTo.move rfl (.tmp 144) (.inl rfl) ⟨(show a1.eval (.tmp 144) = .bool false from (ht 0 (by kernel_rfl))), fun h => absurd h (by decide), fun _ => World.grownBy.refl _ _⟩
                        | 2, ho =>
                          obtain rfl := Option.some.inj ho
                          refine StepsTo.guarded (wanted_of rfl rfl (show a1.eval (.tmp 145) = .bool false from (ht 1 (by kernel_rfl)))) ?_
                          exact StepsTo.move rfl (.tmp 21) (.inl rfl) ⟨(show a1.eval (.tmp 21) = .slice (some ⟨b1, o1, none⟩) nn nc from (hw 21 (by kernel_rfl))), fun h => absurd h (by decide), fun _ => World.grownBy.refl _ _⟩
                        | 3, ho =>
                          obtain rfl := Option.some.inj ho
                          refine StepsTo.guarded (wanted_of rfl rfl (show a1.eval (.tmp 145) = .bool false from (ht 1 (by kernel_rfl)))) ?_
                          exact StepsTo.move rfl (.tmp 22) (.inl rfl) ⟨(show a1.eval (.tmp 22) = .int .i64 (jr : Int) from (hw 22 (by kernel_rfl))), fun h => absurd h (by decide), fun _ => World.grownBy.refl _ _⟩
                        | 4, ho =>
                          obtain rfl := Option.some.inj ho
                          refine StepsTo.guarded (wanted_of rfl rfl (show a1.eval (.tmp 145) = .bool false from (ht 1 (by kernel_rfl)))) ?_
                          exact StepsTo.of_run rfl (run_idxR rfl (show a1.eval (.tmp 146) = (.slice (some ⟨b1, o1, none⟩) nn nc) from (ht 2 (by kernel_rfl))) (show a1.eval (.tmp 147) = .int .i64 (jr : Int) from (ht 3 (by kernel_rfl))) (by omega)) ⟨rfl, fun h => absurd h (by decide), fun _ => World.grownBy.refl _ _⟩
                        | 5, ho =>
                          obtain rfl := Option.some.inj ho
                          refine StepsTo.guarded (wanted_of rfl rfl (show a1.eval (.tmp 145) = .bool false from (ht 1 (by kernel_rfl)))) ?_
                          exact StepsTo.of_run rfl (run_faddrR 0 (by decide) rfl (show a1.eval (.tmp 148) = .pointer (some ⟨b1, o1 + jr * 3, none⟩) from (ht 4 (by kernel_rfl)))) ⟨rfl, fun h => absurd h (by decide), fun _ => World.grownBy.refl _ _⟩
                        | 6, ho =>
                          obtain rfl := Option.some.inj ho
                          refine StepsTo.guarded (wanted_of rfl rfl (show a1.eval (.tmp 145) = .bool false from (ht 1 (by kernel_rfl)))) ?_
                          exact steps_ldd (ldd_side la 1 lc) rfl (.tmp 149) rfl (ht 5 (by kernel_rfl)) (((grown_below7 hJ).cell (p := ⟨b1, o1 + jr * 3, none⟩) HBW.out).trans HA1.out) ⟨rfl, fun h => absurd h (by decide), fun _ => World.grownBy.refl _ _⟩
                        | 7, ho =>
                          obtain rfl := Option.some.inj ho
                          refine StepsTo.guarded (wanted_of rfl rfl (show a1.eval (.tmp 145) = .bool false from (ht 1 (by kernel_rfl)))) ?_
                          exact StepsTo.move rfl (.tmp 21) (.inl rfl) ⟨(show a1.eval (.tmp 21) = .slice (some ⟨b1, o1, none⟩) nn nc from (hw 21 (by kernel_rfl))), fun h => absurd h (by decide), fun _ => World.grownBy.refl _ _⟩
                        | 8, ho =>
                          obtain rfl := Option.some.inj ho
                          refine StepsTo.guarded (wanted_of rfl rfl (show a1.eval (.tmp 145) = .bool false from (ht 1 (by kernel_rfl)))) ?_
                          exact StepsTo.move rfl (.tmp 24) (.inl rfl) ⟨(show a1.eval (.tmp 24) = .int .i64 (q : Int) from (hw 24 (by kernel_rfl))), fun h => absurd h (by decide), fun _ => World.grownBy.refl _ _⟩
                        | 9, ho =>
                          obtain rfl := Option.some.inj ho
                          refine StepsTo.guarded (wanted_of rfl rfl (show a1.eval (.tmp 145) = .bool false from (ht 1 (by kernel_rfl)))) ?_
                          exact StepsTo.of_run rfl (run_idxR rfl (show a1.eval (.tmp 151) = (.slice (some ⟨b1, o1, none⟩) nn nc) from (ht 7 (by kernel_rfl))) (show a1.eval (.tmp 152) = .int .i64 (q : Int) from (ht 8 (by kernel_rfl))) (by omega)) ⟨rfl, fun h => absurd h (by decide), fun _ => World.grownBy.refl _ _⟩
                        | 10, ho =>
                          obtain rfl := Option.some.inj ho
                          refine StepsTo.guarded (wanted_of rfl rfl (show a1.eval (.tmp 145) = .bool false from (ht 1 (by kernel_rfl)))) ?_
                          exact StepsTo.of_run rfl (run_faddrR 1 (by decide) rfl (show a1.eval (.tmp 153) = .pointer (some ⟨b1, o1 + q * 3, none⟩) from (ht 9 (by kernel_rfl)))) ⟨rfl, fun h => absurd h (by decide), fun _ => World.grownBy.refl _ _⟩
                        | 11, ho =>
                          obtain rfl := Option.some.inj ho
                          refine StepsTo.guarded (wanted_of rfl rfl (show a1.eval (.tmp 145) = .bool false from (ht 1 (by kernel_rfl)))) ?_
                          exact steps_ldd (ldd_side ja jn jc) rfl (.tmp 154) rfl (ht 10 (by kernel_rfl)) (((grown_below7 hJ).cell (p := ⟨b1, o1 + q * 3 + 1, none⟩) HBW.out).trans HQ2.out) ⟨rfl, fun h => absurd h (by decide), fun _ => World.grownBy.refl _ _⟩
                        | 12, ho =>
                          obtain rfl := Option.some.inj ho
                          refine StepsTo.guarded (wanted_of rfl rfl (show a1.eval (.tmp 145) = .bool false from (ht 1 (by kernel_rfl)))) ?_
                          have e1 : a1.eval (.tmp 150) = .slice la 1 lc := (ht 6 (by kernel_rfl))
                          have e2 : a1.eval (.tmp 155) = .slice ja jn jc := (ht 11 (by kernel_rfl))
                          have hb := grown_below7 hJ
                          refine StepsTo.enter rfl _ _ (run_sameI rfl e1 e2) (same_is la ja 1 jn lc jc [x] JR false w1 (HSX.out.below hb (Nat.le_refl _)) (HSJ.out.below hb (Nat.le_refl _)) HS1.out) (fun e w' h => ?_)
                          exact ⟨_, h.1, rfl, fun h => absurd h (by decide), fun _ => below_grew7 (below_drawn (Below.refl _ _) h.2)⟩
                        | 13, ho =>
                          obtain rfl := Option.some.inj ho
                          refine StepsTo.guarded (wanted_of rfl rfl (show a1.eval (.tmp 145) = .bool false from (ht 1 (by kernel_rfl)))) ?_
                          exact StepsTo.move rfl (.tmp 156) (.inl rfl) ⟨(show a1.eval (.tmp 156) = .bool false from (ht 12 (by kernel_rfl))), fun h => absurd h (by decide), fun _ => World.grownBy.refl _ _⟩
                        | 14, ho =>
                          obtain rfl := Option.some.inj ho
                          exact StepsTo.passed (passed_of rfl rfl (show a1.eval (.tmp 157) = .bool false from (ht 13 (by kernel_rfl))) (by decide)) ⟨trivial, fun h => absurd h (by decide), fun _ => World.grownBy.refl _ _⟩
                        | 15, ho =>
                          obtain rfl := Option.some.inj ho
                          exact StepsTo.passed (passed_of rfl rfl (show a1.eval (.tmp 157) = .bool false from (ht 13 (by kernel_rfl))) (by decide)) ⟨trivial, fun h => absurd h (by decide), fun _ => World.grownBy.refl _ _⟩
                        | 16, ho =>
                          obtain rfl := Option.some.inj ho
                          exact StepsTo.passed (passed_of rfl rfl (show a1.eval (.tmp 157) = .bool false from (ht 13 (by kernel_rfl))) (by decide)) ⟨trivial, fun h => absurd h (by decide), fun _ => World.grownBy.refl _ _⟩
                        | 17, ho =>
                          obtain rfl := Option.some.inj ho
                          exact StepsTo.passed (passed_of rfl rfl (show a1.eval (.tmp 157) = .bool false from (ht 13 (by kernel_rfl))) (by decide)) ⟨trivial, fun h => absurd h (by decide), fun _ => World.grownBy.refl _ _⟩
                        | 18, ho =>
                          obtain rfl := Option.some.inj ho
                          exact StepsTo.passed (passed_of rfl rfl (show a1.eval (.tmp 157) = .bool false from (ht 13 (by kernel_rfl))) (by decide)) ⟨trivial, fun h => absurd h (by decide), fun _ => World.grownBy.refl _ _⟩
                        | 19, ho =>
                          obtain rfl := Option.some.inj ho
                          exact StepsTo.passed (passed_of rfl rfl (show a1.eval (.tmp 157) = .bool false from (ht 13 (by kernel_rfl))) (by decide)) ⟨trivial, fun h => absurd h (by decide), fun _ => World.grownBy.refl _ _⟩
                        | 20, ho =>
                          obtain rfl := Option.some.inj ho
                          exact StepsTo.passed (passed_of rfl rfl (show a1.eval (.tmp 157) = .bool false from (ht 13 (by kernel_rfl))) (by decide)) ⟨trivial, fun h => absurd h (by decide), fun _ => World.grownBy.refl _ _⟩
                        | 21, ho =>
                          obtain rfl := Option.some.inj ho
                          exact StepsTo.passed (passed_of rfl rfl (show a1.eval (.tmp 157) = .bool false from (ht 13 (by kernel_rfl))) (by decide)) ⟨trivial, fun h => absurd h (by decide), fun _ => World.grownBy.refl _ _⟩
                        | 22, ho =>
                          obtain rfl := Option.some.inj ho
                          exact StepsTo.passed (passed_of rfl rfl (show a1.eval (.tmp 157) = .bool false from (ht 13 (by kernel_rfl))) (by decide)) ⟨trivial, fun h => absurd h (by decide), fun _ => World.grownBy.refl _ _⟩
                        | 23, ho =>
                          obtain rfl := Option.some.inj ho
                          exact StepsTo.passed (passed_of rfl rfl (show a1.eval (.tmp 157) = .bool false from (ht 13 (by kernel_rfl))) (by decide)) ⟨trivial, fun h => absurd h (by decide), fun _ => World.grownBy.refl _ _⟩
                        | 24, ho =>
                          obtain rfl := Option.some.inj ho
                          exact StepsTo.passed (passed_of rfl rfl (show a1.eval (.tmp 157) = .bool false from (ht 13 (by kernel_rfl))) (by decide)) ⟨trivial, fun h => absurd h (by decide), fun _ => World.grownBy.refl _ _⟩
                        | 25, ho =>
                          obtain rfl := Option.some.inj ho
                          refine StepsTo.guarded (wanted_of rfl rfl (show a1.eval (.tmp 145) = .bool false from (ht 1 (by kernel_rfl)))) ?_
                          exact StepsTo.of_run rfl (run_pick rfl (show a1.eval (.tmp 157) = .bool false from (ht 13 (by kernel_rfl))) rfl rfl) ⟨rfl, fun h => absurd h (by decide), fun _ => World.grownBy.refl _ _⟩
                        | 26, ho =>
                          obtain rfl := Option.some.inj ho
                          exact StepsTo.of_run rfl (run_pick rfl (show a1.eval (.tmp 145) = .bool false from (ht 1 (by kernel_rfl))) rfl (show a1.eval (.tmp 169) = .bool false from (ht 25 (by kernel_rfl)))) ⟨rfl, fun h => absurd h (by decide), fun _ => World.grownBy.refl _ _⟩
                        | 27, ho =>
                          obtain rfl := Option.some.inj ho
                          exact StepsTo.move rfl (.tmp 170) (.inr rfl) ⟨(ht 26 (by kernel_rfl)), fun h => absurd h (by decide), fun _ => World.grownBy.refl _ _⟩
                        | j1 + 28, ho => exact absurd (Array.getElem?_eq_some_iff.1 ho).1 (by simp)
                      intro tm w9 hsz hJ hfr hto
                      rw [act_lit2 tm (show tm.size = 219 from hsz)]
                      simp only [List.range, List.range.loop, List.map_cons, List.map_nil]
                      rw [hfr 0 (by kernel_rfl), hfr 1 (by kernel_rfl), hfr 2 (by kernel_rfl), hfr 3 (by kernel_rfl), hfr 4 (by kernel_rfl), hfr 5 (by kernel_rfl), hfr 6 (by kernel_rfl), hfr 7 (by kernel_rfl), hfr 8 (by kernel_rfl), hfr 9 (by kernel_rfl), hfr 10 (by kernel_rfl), hfr 11 (by kernel_rfl), hfr 12 (by kernel_rfl), hfr 13 (by kernel_rfl), hfr 14 (by kernel_rfl), hfr 15 (by kernel_rfl), hfr 16 (by kernel_rfl), hfr 17 (by kernel_rfl), hfr 18 (by kernel_rfl), hfr 19 (by kernel_rfl), hfr 20 (by kernel_rfl), hfr 21 (by kernel_rfl), hfr 22 (by kernel_rfl), hfr 24 (by kernel_rfl), hfr 25 (by kernel_rfl), hfr 26 (by kernel_rfl), hfr 27 (by kernel_rfl), hfr 28 (by kernel_rfl), hfr 29 (by kernel_rfl), hfr 30 (by kernel_rfl), hfr 31 (by kernel_rfl), hfr 32 (by kernel_rfl), hfr 33 (by kernel_rfl), hfr 34 (by kernel_rfl), hfr 35 (by kernel_rfl), hfr 36 (by kernel_rfl), hfr 37 (by kernel_rfl), hfr 38 (by kernel_rfl), hfr 39 (by kernel_rfl), hfr 40 (by kernel_rfl), hfr 41 (by kernel_rfl), hfr 42 (by kernel_rfl), hfr 43 (by kernel_rfl), hfr 44 (by kernel_rfl), hfr 45 (by kernel_rfl), hfr 46 (by kernel_rfl), hfr 47 (by kernel_rfl), hfr 48 (by kernel_rfl), hfr 49 (by kernel_rfl), hfr 50 (by kernel_rfl), hfr 51 (by kernel_rfl), hfr 52 (by kernel_rfl), hfr 53 (by kernel_rfl), hfr 54 (by kernel_rfl), hfr 55 (by kernel_rfl), hfr 56 (by kernel_rfl), hfr 57 (by kernel_rfl), hfr 58 (by kernel_rfl), hfr 59 (by kernel_rfl), hfr 60 (by kernel_rfl), hfr 61 (by kernel_rfl), hfr 62 (by kernel_rfl), hfr 63 (by kernel_rfl), hfr 64 (by kernel_rfl), hfr 65 (by kernel_rfl), hfr 66 (by kernel_rfl), hfr 67 (by kernel_rfl), hfr 68 (by kernel_rfl), hfr 69 (by kernel_rfl), hfr 70 (by kernel_rfl), hfr 71 (by kernel_rfl), hfr 72 (by kernel_rfl), hfr 73 (by kernel_rfl), hfr 74 (by kernel_rfl), hfr 75 (by kernel_rfl), hfr 76 (by kernel_rfl), hfr 77 (by kernel_rfl), hfr 78 (by kernel_rfl), hfr 79 (by kernel_rfl), hfr 80 (by kernel_rfl), hfr 81 (by kernel_rfl), hfr 82 (by kernel_rfl), hfr 83 (by kernel_rfl), hfr 84 (by kernel_rfl), hfr 85 (by kernel_rfl), hfr 86 (by kernel_rfl), hfr 87 (by kernel_rfl), hfr 88 (by kernel_rfl), hfr 89 (by kernel_rfl), hfr 90 (by kernel_rfl), hfr 91 (by kernel_rfl), hfr 92 (by kernel_rfl), hfr 93 (by kernel_rfl), hfr 94 (by kernel_rfl), hfr 95 (by kernel_rfl), hfr 96 (by kernel_rfl), hfr 97 (by kernel_rfl), hfr 98 (by kernel_rfl), hfr 99 (by kernel_rfl), hfr 100 (by kernel_rfl), hfr 101 (by kernel_rfl), hfr 102 (by kernel_rfl), hfr 103 (by kernel_rfl), hfr 104 (by kernel_rfl), hfr 105 (by kernel_rfl), hfr 106 (by kernel_rfl), hfr 107 (by kernel_rfl), hfr 108 (by kernel_rfl), hfr 109 (by kernel_rfl), hfr 110 (by kernel_rfl), hfr 111 (by kernel_rfl), hfr 112 (by kernel_rfl), hfr 113 (by kernel_rfl), hfr 114 (by kernel_rfl), hfr 115 (by kernel_rfl), hfr 116 (by kernel_rfl), hfr 117 (by kernel_rfl), hfr 118 (by kernel_rfl), hfr 119 (by kernel_rfl), hfr 120 (by kernel_rfl), hfr 121 (by kernel_rfl), hfr 122 (by kernel_rfl), hfr 123 (by kernel_rfl), hfr 124 (by kernel_rfl), hfr 125 (by kernel_rfl), hfr 126 (by kernel_rfl), hfr 127 (by kernel_rfl), hfr 128 (by kernel_rfl), hfr 129 (by kernel_rfl), hfr 130 (by kernel_rfl), hfr 131 (by kernel_rfl), hfr 132 (by kernel_rfl), hfr 133 (by kernel_rfl), hfr 134 (by kernel_rfl), hfr 135 (by kernel_rfl), hfr 136 (by kernel_rfl), hfr 137 (by kernel_rfl), hfr 138 (by kernel_rfl), hfr 139 (by kernel_rfl), hfr 140 (by kernel_rfl), hfr 141 (by kernel_rfl), hfr 142 (by kernel_rfl), hfr 143 (by kernel_rfl), hfr 171 (by kernel_rfl), hfr 172 (by kernel_rfl), hfr 173 (by kernel_rfl), hfr 174 (by kernel_rfl), hfr 175 (by kernel_rfl), hfr 176 (by kernel_rfl), hfr 177 (by kernel_rfl), hfr 178 (by kernel_rfl), hfr 179 (by kernel_rfl), hfr 180 (by kernel_rfl), hfr 181 (by kernel_rfl), hfr 182 (by kernel_rfl), hfr 183 (by kernel_rfl), hfr 184 (by kernel_rfl), hfr 185 (by kernel_rfl), hfr 186 (by kernel_rfl), hfr 187 (by kernel_rfl), hfr 188 (by kernel_rfl), hfr 189 (by kernel_rfl), hfr 190 (by kernel_rfl), hfr 191 (by kernel_rfl), hfr 192 (by kernel_rfl), hfr 193 (by kernel_rfl), hfr 194 (by kernel_rfl), hfr 195 (by kernel_rfl), hfr 196 (by kernel_rfl), hfr 197 (by kernel_rfl), hfr 198 (by kernel_rfl), hfr 199 (by kernel_rfl), hfr 200 (by kernel_rfl), hfr 201 (by kernel_rfl), hfr 202 (by kernel_rfl), hfr 203 (by kernel_rfl), hfr 204 (by kernel_rfl), hfr 205 (by kernel_rfl), hfr 206 (by kernel_rfl), hfr 207 (by kernel_rfl), hfr 208 (by kernel_rfl), hfr 209 (by kernel_rfl), hfr 210 (by kernel_rfl), hfr 211 (by kernel_rfl), hfr 212 (by kernel_rfl), hfr 213 (by kernel_rfl), hfr 214 (by kernel_rfl), hfr 215 (by kernel_rfl), hfr 216 (by kernel_rfl), hfr 217 (by kernel_rfl), hfr 218 (by kernel_rfl)]
                      simp only [Array.getD_eq_getD_getElem?, List.getElem?_toArray, List.getElem?_cons_succ, List.getElem?_cons_zero, Option.getD_some]
                      have t0 : (tm[144]?.getD undef) = .bool false := by have h := hto 0 (by decide); simp only [Array.getD_eq_getD_getElem?] at h; exact h
                      have t1 : (tm[145]?.getD undef) = .bool false := by have h := hto 1 (by decide); simp only [Array.getD_eq_getD_getElem?] at h; exact h
                      have t2 : (tm[146]?.getD undef) = .slice (some ⟨b1, o1, none⟩) nn nc := by have h := hto 2 (by decide); simp only [Array.getD_eq_getD_getElem?] at h; exact h
                      have t3 : (tm[147]?.getD undef) = .int .i64 (jr : Int) := by have h := hto 3 (by decide); simp only [Array.getD_eq_getD_getElem?] at h; exact h
                      have t4 : (tm[148]?.getD undef) = .pointer (some ⟨b1, o1 + jr * 3, none⟩) := by have h := hto 4 (by decide); simp only [Array.getD_eq_getD_getElem?] at h; exact h
                      have t5 : (tm[149]?.getD undef) = .pointer (some ⟨b1, o1 + jr * 3, none⟩) := by have h := hto 5 (by decide); simp only [Array.getD_eq_getD_getElem?] at h; exact h
                      have t6 : (tm[150]?.getD undef) = .slice la 1 lc := by have h := hto 6 (by decide); simp only [Array.getD_eq_getD_getElem?] at h; exact h
                      have t7 : (tm[151]?.getD undef) = .slice (some ⟨b1, o1, none⟩) nn nc := by have h := hto 7 (by decide); simp only [Array.getD_eq_getD_getElem?] at h; exact h
                      have t8 : (tm[152]?.getD undef) = .int .i64 (q : Int) := by have h := hto 8 (by decide); simp only [Array.getD_eq_getD_getElem?] at h; exact h
                      have t9 : (tm[153]?.getD undef) = .pointer (some ⟨b1, o1 + q * 3, none⟩) := by have h := hto 9 (by decide); simp only [Array.getD_eq_getD_getElem?] at h; exact h
                      have t10 : (tm[154]?.getD undef) = .pointer (some ⟨b1, o1 + q * 3 + 1, none⟩) := by have h := hto 10 (by decide); simp only [Array.getD_eq_getD_getElem?] at h; exact h
                      have t11 : (tm[155]?.getD undef) = .slice ja jn jc := by have h := hto 11 (by decide); simp only [Array.getD_eq_getD_getElem?] at h; exact h
                      have t12 : (tm[156]?.getD undef) = .bool false := by have h := hto 12 (by decide); simp only [Array.getD_eq_getD_getElem?] at h; exact h
                      have t13 : (tm[157]?.getD undef) = .bool false := by have h := hto 13 (by decide); simp only [Array.getD_eq_getD_getElem?] at h; exact h
                      have t14 : True := by have h := hto 14 (by decide); simp only [Array.getD_eq_getD_getElem?] at h; exact h
                      have t15 : True := by have h := hto 15 (by decide); simp only [Array.getD_eq_getD_getElem?] at h; exact h
                      have t16 : True := by have h := hto 16 (by decide); simp only [Array.getD_eq_getD_getElem?] at h; exact h
                      have t17 : True := by have h := hto 17 (by decide); simp only [Array.getD_eq_getD_getElem?] at h; exact h
                      have t18 : True := by have h := hto 18 (by decide); simp only [Array.getD_eq_getD_getElem?] at h; exact h
                      have t19 : True := by have h := hto 19 (by decide); simp only [Array.getD_eq_getD_getElem?] at h; exact h
                      have t20 : True := by have h := hto 20 (by decide); simp only [Array.getD_eq_getD_getElem?] at h; exact h
                      have t21 : True := by have h := hto 21 (by decide); simp only [Array.getD_eq_getD_getElem?] at h; exact h
                      have t22 : True := by have h := hto 22 (by decide); simp only [Array.getD_eq_getD_getElem?] at h; exact h
                      have t23 : True := by have h := hto 23 (by decide); simp only [Array.getD_eq_getD_getElem?] at h; exact h
                      have t24 : True := by have h := hto 24 (by decide); simp only [Array.getD_eq_getD_getElem?] at h; exact h
                      have t25 : (tm[169]?.getD undef) = .bool false := by have h := hto 25 (by decide); simp only [Array.getD_eq_getD_getElem?] at h; exact h
                      have t26 : (tm[170]?.getD undef) = .bool false := by have h := hto 26 (by decide); simp only [Array.getD_eq_getD_getElem?] at h; exact h
                      have t27 : (tm[23]?.getD undef) = .bool false := by have h := hto 27 (by decide); simp only [Array.getD_eq_getD_getElem?] at h; exact h
                      clear hto
                      generalize tm[23]?.getD undef = y23 at *
                      generalize tm[144]?.getD undef = y144 at *
                      generalize tm[145]?.getD undef = y145 at *
                      generalize tm[146]?.getD undef = y146 at *
                      generalize tm[147]?.getD undef = y147 at *
                      generalize tm[148]?.getD undef = y148 at *
                      generalize tm[149]?.getD undef = y149 at *
                      generalize tm[150]?.getD undef = y150 at *
                      generalize tm[151]?.getD undef = y151 at *
                      generalize tm[152]?.getD undef = y152 at *
                      generalize tm[153]?.getD undef = y153 at *
                      generalize tm[154]?.getD undef = y154 at *
                      generalize tm[155]?.getD undef = y155 at *
                      generalize tm[156]?.getD undef = y156 at *
                      generalize tm[157]?.getD undef = y157 at *
                      generalize tm[158]?.getD undef = y158 at *
                      generalize tm[159]?.getD undef = y159 at *
                      generalize tm[160]?.getD undef = y160 at *
                      generalize tm[161]?.getD undef = y161 at *
                      generalize tm[162]?.getD undef = y162 at *
                      generalize tm[163]?.getD undef = y163 at *
                      generalize tm[164]?.getD undef = y164 at *
                      generalize tm[165]?.getD undef = y165 at *
                      generalize tm[166]?.getD undef = y166 at *
                      generalize tm[167]?.getD undef = y167 at *
                      generalize tm[168]?.getD undef = y168 at *
                      generalize tm[169]?.getD undef = y169 at *
                      generalize tm[170]?.getD undef = y170 at *
                      clear hfr hsz tm
                      obtain rfl := t27
                      have hb9 := grown_below7 hJ
                      have HB9 : Hid (Below wo.heap.size wo w9) := HBI.out.trans (hb9.mono HBI.out.size)
                      have HK9 : Hid (Below w.heap.size w w9 ∧ w9.heap[g2]? = some (.cells #[.slice ba2 bn2 bc2, .slice ra2 rn2 rc2] 32 (0, 0)) ∧ Rs w9 (some ⟨b1, o1, none⟩) nn nc outs ∧ Rs w9 ra2 rn2 rc2 ys2) := ⟨HKI.out.1.trans (hb9.mono HKI.out.1.size), (hb9.block _ (Array.getElem?_eq_some_iff.1 HKI.out.2.1).1).trans HKI.out.2.1, HKI.out.2.2.1.below hb9 (Nat.le_refl _), HKI.out.2.2.2.below hb9 (Nat.le_refl _)⟩
                      clear t0 t1 t2 t3 t4 t5 t6 t7 t8 t9 t10 t11 t12 t13 t14 t15 t16 t17 t18 t19 t20 t21 t22 t23 t24 t25 t26 hJ hb9
                      go_wp2
                      go_roundw
                      case rel => exact ⟨q + 1, false, by omega, by go_num, rfl, HRES.out, HK9.out, HB9.out⟩
                      case measure => simp [intOf]; omega
                    · obtain ⟨s2, hs2⟩ : ∃ b, decide ([y] = KL) = b := ⟨_, rfl⟩
                      have HS1 := Lib.hid hs1
                      have HS2 := Lib.hid hs2
                      have HRES : Hid (Spec.hasT NL x y (q + 1) = s2) := by
                        show Spec.hasT NL x y (q + 1) = s2
                        have e1 := of_decide_eq_true hs1
                        rw [HNX.out, Bool.false_or, ← hs2]
                        congr 1
                        exact propext ⟨fun h => h.1.symm, fun h => ⟨h.symm, e1.symm⟩⟩
                      clear hs1 hs2
                      go_wp2_with fail
                      refine wp_region_told2 HMX.out 28 [(144, 144), (145, 145), (146, 146), (147, 147), (148, 148), (149, 149), (150, 150), (151, 151), (152, 152), (153, 153), (154, 154), (155, 155), (156, 156), (157, 157), (158, 158), (159, 159), (160, 160), (161, 161), (162, 162), (163, 163), (164, 164), (165, 165), (166, 166), (167, 167), (168, 168), (169, 169), (170, 170), (23, 23)]
                        (fun (j : Nat) (v u : Value) (w0 : World) => match j with
                          | 0 => v = .bool false
                          | 1 => v = .bool false
                          | 2 => v = .slice (some ⟨b1, o1, none⟩) nn nc
                          | 3 => v = .int .i64 (jr : Int)
                          | 4 => v = .pointer (some ⟨b1, o1 + jr * 3, none⟩)
                          | 5 => v = .pointer (some ⟨b1, o1 + jr * 3, none⟩)
                          | 6 => v = .slice la 1 lc
                          | 7 => v = .slice (some ⟨b1, o1, none⟩) nn nc
                          | 8 => v = .int .i64 (q : Int)
                          | 9 => v = .pointer (some ⟨b1, o1 + q * 3, none⟩)
                          | 10 => v = .pointer (some ⟨b1, o1 + q * 3 + 1, none⟩)
                          | 11 => v = .slice ja jn jc
                          | 12 => v = .bool true
                          | 13 => v = .bool true
                          | 14 => v = .slice (some ⟨b1, o1, none⟩) nn nc
                          | 15 => v = .int .i64 (jr : Int)
                          | 16 => v = .pointer (some ⟨b1, o1 + jr * 3, none⟩)
                          | 17 => v = .pointer (some ⟨b1, o1 + jr * 3 + 1, none⟩)
                          | 18 => v = .slice ra 1 rc
                          | 19 => v = .slice (some ⟨b1, o1, none⟩) nn nc
                          | 20 => v = .int .i64 (q : Int)
                          | 21 => v = .pointer (some ⟨b1, o1 + q * 3, none⟩)
                          | 22 => v = .pointer (some ⟨b1, o1 + q * 3, none⟩)
                          | 23 => v = .slice ka kn kc
                          | 24 => v = .bool s2
                          | 25 => v = .bool s2
                          | 26 => v = .bool s2
                          | 27 => v = .bool s2
                          | _ => True)
                        (fun W => (wr).drew.grownBy W none) (fun _ _ _ => False) (by kernel_rfl) (by kernel_rfl) (World.grownBy.refl _ _) (fun _ _ h1 h2 => h1.trans h2) (fun _ _ _ _ h => h.elim) ?_ ?_ ?_ ?_
                      · intro j v u w0 w' h hg
                        match j, h with
                        | 0, h => exact h
                        | 1, h => exact h
                        | 2, h => exact h
                        | 3, h => exact h
                        | 4, h => exact h
                        | 5, h => exact h
                        | 6, h => exact h
                        | 7, h => exact h
                        | 8, h => exact h
                        | 9, h => exact h
                        | 10, h => exact h
                        | 11, h => exact h
                        | 12, h => exact h
                        | 13, h => exact h
                        | 14, h => exact h
                        | 15, h => exact h
                        | 16, h => exact h
                        | 17, h => exact h
                        | 18, h => exact h
                        | 19, h => exact h
                        | 20, h => exact h
                        | 21, h => exact h
                        | 22, h => exact h
                        | 23, h => exact h
                        | 24, h => exact h
                        | 25, h => exact h
                        | 26, h => exact h
                        | 27, h => exact h
                        | j + 28, h => exact h
                      · intro j v u a0 w0 w' hne h hr
                        match j, hne, h with
                        | 0, hne, h => exact h
                        | 1, hne, h => exact h
                        | 2, hne, h => exact h
                        | 3, hne, h => exact h
                        | 4, hne, h => exact h
                        | 5, hne, h => exact h
                        | 6, hne, h => exact h
                        | 7, hne, h => exact h
                        | 8, hne, h => exact h
                        | 9, hne, h => exact h
                        | 10, hne, h => exact h
                        | 11, hne, h => exact h
                        | 12, hne, h => exact h
                        | 13, hne, h => exact h
                        | 14, hne, h => exact h
                        | 15, hne, h => exact h
                        | 16, hne, h => exact h
                        | 17, hne, h => exact h
                        | 18, hne, h => exact h
                        | 19, hne, h => exact h
                        | 20, hne, h => exact h
                        | 21, hne, h => exact h
                        | 22, hne, h => exact h
                        | 23, hne, h => exact h
                        | 24, hne, h => exact h
                        | 25, hne, h => exact h
                        | 26, hne, h => exact h
                        | 27, hne, h => exact h
                        | j + 28, _, h => exact h
                      · intro i1 o ho a1 w1 hJ hw ht
                        match i1, ho with
                        | 0, ho =>
                          obtain rfl := Option.some.inj ho
                          exact StepsTo.move rfl (.tmp 23) (.inl rfl) ⟨(show a1.eval (.tmp 23) = .bool false from (hw 23 (by kernel_rfl))), fun h => absurd h (by decide), fun _ => World.grownBy.refl _ _⟩
                        | 1, ho =>
                          obtain rfl := Option.some.inj ho
                          exact StepsTo.move rfl (.tmp 144) (.inl rfl) ⟨(show a1.eval (.tmp 144) = .bool false from (ht 0 (by kernel_rfl))), fun h => absurd h (by decide), fun _ => World.grownBy.refl _ _⟩
                        | 2, ho =>
                          obtain rfl := Option.some.inj ho
                          refine StepsTo.guarded (wanted_of rfl rfl (show a1.eval (.tmp 145) = .bool false from (ht 1 (by kernel_rfl)))) ?_
                          exact StepsTo.move rfl (.tmp 21) (.inl rfl) ⟨(show a1.eval (.tmp 21) = .slice (some ⟨b1, o1, none⟩) nn nc from (hw 21 (by kernel_rfl))), fun h => absurd h (by decide), fun _ => World.grownBy.refl _ _⟩
                        | 3, ho =>
                          obtain rfl := Option.some.inj ho
                          refine StepsTo.guarded (wanted_of rfl rfl (show a1.eval (.tmp 145) = .bool false from (ht 1 (by kernel_rfl)))) ?_
                          exact StepsTo.move rfl (.tmp 22) (.inl rfl) ⟨(show a1.eval (.tmp 22) = .int .i64 (jr : Int) from (hw 22 (by kernel_rfl))), fun h => absurd h (by decide), fun _ => World.grownBy.refl _ _⟩
                        | 4, ho =>
                          obtain rfl := Option.some.inj ho
                          refine StepsTo.guarded (wanted_of rfl rfl (show a1.eval (.tmp 145) = .bool false from (ht 1 (by kernel_rfl)))) ?_
                          exact StepsTo.of_run rfl (run_idxR rfl (show a1.eval (.tmp 146) = (.slice (some ⟨b1, o1, none⟩) nn nc) from (ht 2 (by kernel_rfl))) (show a1.eval (.tmp 147) = .int .i64 (jr : Int) from (ht 3 (by kernel_rfl))) (by omega)) ⟨rfl, fun h => absurd h (by decide), fun _ => World.grownBy.refl _ _⟩
                        | 5, ho =>
                          obtain rfl := Option.some.inj ho
                          refine StepsTo.guarded (wanted_of rfl rfl (show a1.eval (.tmp 145) = .bool false from (ht 1 (by kernel_rfl)))) ?_
                          exact StepsTo.of_run rfl (run_faddrR 0 (by decide) rfl (show a1.eval (.tmp 148) = .pointer (some ⟨b1, o1 + jr * 3, none⟩) from (ht 4 (by kernel_rfl)))) ⟨rfl, fun h => absurd h (by decide), fun _ => World.grownBy.refl _ _⟩
                        | 6, ho =>
                          obtain rfl := Option.some.inj ho
                          refine StepsTo.guarded (wanted_of rfl rfl (show a1.eval (.tmp 145) = .bool false from (ht 1 (by kernel_rfl)))) ?_
                          exact steps_ldd (ldd_side la 1 lc) rfl (.tmp 149) rfl (ht 5 (by kernel_rfl)) (((grown_below7 hJ).cell (p := ⟨b1, o1 + jr * 3, none⟩) HBW.out).trans HA1.out) ⟨rfl, fun h => absurd h (by decide), fun _ => World.grownBy.refl _ _⟩
                        | 7, ho =>
                          obtain rfl := Option.some.inj ho
                          refine StepsTo.guarded (wanted_of rfl rfl (show a1.eval (.tmp 145) = .bool false from (ht 1 (by kernel_rfl)))) ?_
                          exact StepsTo.move rfl (.tmp 21) (.inl rfl) ⟨(show a1.eval (.tmp 21) = .slice (some ⟨b1, o1, none⟩) nn nc from (hw 21 (by kernel_rfl))), fun h => absurd h (by decide), fun _ => World.grownBy.refl _ _⟩
                        | 8, ho =>
                          obtain rfl := Option.some.inj ho
                          refine StepsTo.guarded (wanted_of rfl rfl (show a1.eval (.tmp 145) = .bool false from (ht 1 (by kernel_rfl)))) ?_
                          exact StepsTo.move rfl (.tmp 24) (.inl rfl) ⟨(show a1.eval (.tmp 24) = .int .i64 (q : Int) from (hw 24 (by kernel_rfl))), fun h => absurd h (by decide), fun _ => World.grownBy.refl _ _⟩
                        | 9, ho =>
                          obtain rfl := Option.some.inj ho
                          refine StepsTo.guarded (wanted_of rfl rfl (show a1.eval (.tmp 145) = .bool false from (ht 1 (by kernel_rfl)))) ?_
                          exact StepsTo.of_run rfl (run_idxR rfl (show a1.eval (.tmp 151) = (.slice (some ⟨b1, o1, none⟩) nn nc) from (ht 7 (by kernel_rfl))) (show a1.eval (.tmp 152) = .int .i64 (q : Int) from (ht 8 (by kernel_rfl))) (by omega)) ⟨rfl, fun h => absurd h (by decide), fun _ => World.grownBy.refl _ _⟩
                        | 10, ho =>
                          obtain rfl := Option.some.inj ho
                          refine StepsTo.guarded (wanted_of rfl rfl (show a1.eval (.tmp 145) = .bool false from (ht 1 (by kernel_rfl)))) ?_
                          exact StepsTo.of_run rfl (run_faddrR 1 (by decide) rfl (show a1.eval (.tmp 153) = .pointer (some ⟨b1, o1 + q * 3, none⟩) from (ht 9 (by kernel_rfl)))) ⟨rfl, fun h => absurd h (by decide), fun _ => World.grownBy.refl _ _⟩
                        | 11, ho =>
                          obtain rfl := Option.some.inj ho
                          refine StepsTo.guarded (wanted_of rfl rfl (show a1.eval (.tmp 145) = .bool false from (ht 1 (by kernel_rfl)))) ?_
                          exact steps_ldd (ldd_side ja jn jc) rfl (.tmp 154) rfl (ht 10 (by kernel_rfl)) (((grown_below7 hJ).cell (p := ⟨b1, o1 + q * 3 + 1, none⟩) HBW.out).trans HQ2.out) ⟨rfl, fun h => absurd h (by decide), fun _ => World.grownBy.refl _ _⟩
                        | 12, ho =>
                          obtain rfl := Option.some.inj ho
                          refine StepsTo.guarded (wanted_of rfl rfl (show a1.eval (.tmp 145) = .bool false from (ht 1 (by kernel_rfl)))) ?_
                          have e1 : a1.eval (.tmp 150) = .slice la 1 lc := (ht 6 (by kernel_rfl))
                          have e2 : a1.eval (.tmp 155) = .slice ja jn jc := (ht 11 (by kernel_rfl))
                          have hb := grown_below7 hJ
                          refine StepsTo.enter rfl _ _ (run_sameI rfl e1 e2) (same_is la ja 1 jn lc jc [x] JR true w1 (HSX.out.below hb (Nat.le_refl _)) (HSJ.out.below hb (Nat.le_refl _)) HS1.out) (fun e w' h => ?_)
                          exact ⟨_, h.1, rfl, fun h => absurd h (by decide), fun _ => below_grew7 (below_drawn (Below.refl _ _) h.2)⟩
                        | 13, ho =>
                          obtain rfl := Option.some.inj ho
                          refine StepsTo.guarded (wanted_of rfl rfl (show a1.eval (.tmp 145) = .bool false from (ht 1 (by kernel_rfl)))) ?_
                          exact StepsTo.move rfl (.tmp 156) (.inl rfl) ⟨(show a1.eval (.tmp 156) = .bool true from (ht 12 (by kernel_rfl))), fun h => absurd h (by decide), fun _ => World.grownBy.refl _ _⟩
                        | 14, ho =>
                          obtain rfl := Option.some.inj ho
                          refine StepsTo.guarded (wanted_of rfl rfl (show a1.eval (.tmp 157) = .bool true from (ht 13 (by kernel_rfl)))) ?_
                          exact StepsTo.move rfl (.tmp 21) (.inl rfl) ⟨(show a1.eval (.tmp 21) = .slice (some ⟨b1, o1, none⟩) nn nc from (hw 21 (by kernel_rfl))), fun h => absurd h (by decide), fun _ => World.grownBy.refl _ _⟩
                        | 15, ho =>
                          obtain rfl := Option.some.inj ho
                          refine StepsTo.guarded (wanted_of rfl rfl (show a1.eval (.tmp 157) = .bool true from (ht 13 (by kernel_rfl)))) ?_
                          exact StepsTo.move rfl (.tmp 22) (.inl rfl) ⟨(show a1.eval (.tmp 22) = .int .i64 (jr : Int) from (hw 22 (by kernel_rfl))), fun h => absurd h (by decide), fun _ => World.grownBy.refl _ _⟩
                        | 16, ho =>
                          obtain rfl := Option.some.inj ho
                          refine StepsTo.guarded (wanted_of rfl rfl (show a1.eval (.tmp 157) = .bool true from (ht 13 (by kernel_rfl)))) ?_
                          exact StepsTo.of_run rfl (run_idxR rfl (show a1.eval (.tmp 158) = (.slice (some ⟨b1, o1, none⟩) nn nc) from (ht 14 (by kernel_rfl))) (show a1.eval (.tmp 159) = .int .i64 (jr : Int) from (ht 15 (by kernel_rfl))) (by omega)) ⟨rfl, fun h => absurd h (by decide), fun _ => World.grownBy.refl _ _⟩
                        | 17, ho =>
                          obtain rfl := Option.some.inj ho
                          refine StepsTo.guarded (wanted_of rfl rfl (show a1.eval (.tmp 157) = .bool true from (ht 13 (by kernel_rfl)))) ?_
                          exact StepsTo.of_run rfl (run_faddrR 1 (by decide) rfl (show a1.eval (.tmp 160) = .pointer (some ⟨b1, o1 + jr * 3, none⟩) from (ht 16 (by kernel_rfl)))) ⟨rfl, fun h => absurd h (by decide), fun _ => World.grownBy.refl _ _⟩
                        | 18, ho =>
                          obtain rfl := Option.some.inj ho
                          refine StepsTo.guarded (wanted_of rfl rfl (show a1.eval (.tmp 157) = .bool true from (ht 13 (by kernel_rfl)))) ?_
                          exact steps_ldd (ldd_side ra 1 rc) rfl (.tmp 161) rfl (ht 17 (by kernel_rfl)) (((grown_below7 hJ).cell (p := ⟨b1, o1 + jr * 3 + 1, none⟩) HBW.out).trans HA2.out) ⟨rfl, fun h => absurd h (by decide), fun _ => World.grownBy.refl _ _⟩
                        | 19, ho =>
                          obtain rfl := Option.some.inj ho
                          refine StepsTo.guarded (wanted_of rfl rfl (show a1.eval (.tmp 157) = .bool true from (ht 13 (by kernel_rfl)))) ?_
                          exact StepsTo.move rfl (.tmp 21) (.inl rfl) ⟨(show a1.eval (.tmp 21) = .slice (some ⟨b1, o1, none⟩) nn nc from (hw 21 (by kernel_rfl))), fun h => absurd h (by decide), fun _ => World.grownBy.refl _ _⟩
                        | 20, ho =>
                          obtain rfl := Option.some.inj ho
                          refine StepsTo.guarded (wanted_of rfl rfl (show a1.eval (.tmp 157) = .bool true from (ht 13 (by kernel_rfl)))) ?_
                          exact StepsTo.move rfl (.tmp 24) (.inl rfl) ⟨(show a1.eval (.tmp 24) = .int .i64 (q : Int) from (hw 24 (by kernel_rfl))), fun h => absurd h (by decide), fun _ => World.grownBy.refl _ _⟩
                        | 21, ho =>
                          obtain rfl := Option.some.inj ho
                          refine StepsTo.guarded (wanted_of rfl rfl (show a1.eval (.tmp 157) = .bool true from (ht 13 (by kernel_rfl)))) ?_
                          exact StepsTo.of_run rfl (run_idxR rfl (show a1.eval (.tmp 163) = (.slice (some ⟨b1, o1, none⟩) nn nc) from (ht 19 (by kernel_rfl))) (show a1.eval (.tmp 164) = .int .i64 (q : Int) from (ht 20 (by kernel_rfl))) (by omega)) ⟨rfl, fun h => absurd h (by decide), fun _ => World.grownBy.refl _ _⟩
                        | 22, ho =>
                          obtain rfl := Option.some.inj ho
                          refine StepsTo.guarded (wanted_of rfl rfl (show a1.eval (.tmp 157) = .bool true from (ht 13 (by kernel_rfl)))) ?_
                          exact StepsTo.of_run rfl (run_faddrR 0 (by decide) rfl (show a1.eval (.tmp 165) = .pointer (some ⟨b1, o1 + q * 3, none⟩) from (ht 21 (by kernel_rfl)))) ⟨rfl, fun h => absurd h (by decide), fun _ => World.grownBy.refl _ _⟩
                        | 23, ho =>
                          obtain rfl := Option.some.inj ho
                          refine StepsTo.guarded (wanted_of rfl rfl (show a1.eval (.tmp 157) = .bool true from (ht 13 (by kernel_rfl)))) ?_
                          exact steps_ldd (ldd_side ka kn kc) rfl (.tmp 166) rfl (ht 22 (by kernel_rfl)) (((grown_below7 hJ).cell (p := ⟨b1, o1 + q * 3, none⟩) HBW.out).trans HQ1.out) ⟨rfl, fun h => absurd h (by decide), fun _ => World.grownBy.refl _ _⟩
                        | 24, ho =>
                          obtain rfl := Option.some.inj ho
                          refine StepsTo.guarded (wanted_of rfl rfl (show a1.eval (.tmp 157) = .bool true from (ht 13 (by kernel_rfl)))) ?_
                          have e1 : a1.eval (.tmp 162) = .slice ra 1 rc := (ht 18 (by kernel_rfl))
                          have e2 : a1.eval (.tmp 167) = .slice ka kn kc := (ht 23 (by kernel_rfl))
                          have hb := grown_below7 hJ
                          refine StepsTo.enter rfl _ _ (run_sameI rfl e1 e2) (same_is ra ka 1 kn rc kc [y] KL s2 w1 (HSY.out.below hb (Nat.le_refl _)) (HSK.out.below hb (Nat.le_refl _)) HS2.out) (fun e w' h => ?_)
                          exact ⟨_, h.1, rfl, fun h => absurd h (by decide), fun _ => below_grew7 (below_drawn (Below.refl _ _) h.2)⟩
                        | 25, ho =>
                          obtain rfl := Option.some.inj ho
                          refine StepsTo.guarded (wanted_of rfl rfl (show a1.eval (.tmp 145) = .bool false from (ht 1 (by kernel_rfl)))) ?_
                          exact StepsTo.of_run rfl (run_pick rfl (show a1.eval (.tmp 157) = .bool true from (ht 13 (by kernel_rfl))) (show a1.eval (.tmp 168) = .bool s2 from (ht 24 (by kernel_rfl))) rfl) ⟨rfl, fun h => absurd h (by decide), fun _ => World.grownBy.refl _ _⟩
                        | 26, ho =>
                          obtain rfl := Option.some.inj ho
                          exact StepsTo.of_run rfl (run_pick rfl (show a1.eval (.tmp 145) = .bool false from (ht 1 (by kernel_rfl))) rfl (show a1.eval (.tmp 169) = .bool s2 from (ht 25 (by kernel_rfl)))) ⟨rfl, fun h => absurd h (by decide), fun _ => World.grownBy.refl _ _⟩
                        | 27, ho =>
                          obtain rfl := Option.some.inj ho
                          exact StepsTo.move rfl (.tmp 170) (.inr rfl) ⟨(ht 26 (by kernel_rfl)), fun h => absurd h (by decide), fun _ => World.grownBy.refl _ _⟩
                        | j1 + 28, ho => exact absurd (Array.getElem?_eq_some_iff.1 ho).1 (by simp)
                      intro tm w9 hsz hJ hfr hto
                      rw [act_lit2 tm (show tm.size = 219 from hsz)]
                      simp only [List.range, List.range.loop, List.map_cons, List.map_nil]
                      rw [hfr 0 (by kernel_rfl), hfr 1 (by kernel_rfl), hfr 2 (by kernel_rfl), hfr 3 (by kernel_rfl), hfr 4 (by kernel_rfl), hfr 5 (by kernel_rfl), hfr 6 (by kernel_rfl), hfr 7 (by kernel_rfl), hfr 8 (by kernel_rfl), hfr 9 (by kernel_rfl), hfr 10 (by kernel_rfl), hfr 11 (by kernel_rfl), hfr 12 (by kernel_rfl), hfr 13 (by kernel_rfl), hfr 14 (by kernel_rfl), hfr 15 (by kernel_rfl), hfr 16 (by kernel_rfl), hfr 17 (by kernel_rfl), hfr 18 (by kernel_rfl), hfr 19 (by kernel_rfl), hfr 20 (by kernel_rfl), hfr 21 (by kernel_rfl), hfr 22 (by kernel_rfl), hfr 24 (by kernel_rfl), hfr 25 (by kernel_rfl), hfr 26 (by kernel_rfl), hfr 27 (by kernel_rfl), hfr 28 (by kernel_rfl), hfr 29 (by kernel_rfl), hfr 30 (by kernel_rfl), hfr 31 (by kernel_rfl), hfr 32 (by kernel_rfl), hfr 33 (by kernel_rfl), hfr 34 (by kernel_rfl), hfr 35 (by kernel_rfl), hfr 36 (by kernel_rfl), hfr 37 (by kernel_rfl), hfr 38 (by kernel_rfl), hfr 39 (by kernel_rfl), hfr 40 (by kernel_rfl), hfr 41 (by kernel_rfl), hfr 42 (by kernel_rfl), hfr 43 (by kernel_rfl), hfr 44 (by kernel_rfl), hfr 45 (by kernel_rfl), hfr 46 (by kernel_rfl), hfr 47 (by kernel_rfl), hfr 48 (by kernel_rfl), hfr 49 (by kernel_rfl), hfr 50 (by kernel_rfl), hfr 51 (by kernel_rfl), hfr 52 (by kernel_rfl), hfr 53 (by kernel_rfl), hfr 54 (by kernel_rfl), hfr 55 (by kernel_rfl), hfr 56 (by kernel_rfl), hfr 57 (by kernel_rfl), hfr 58 (by kernel_rfl), hfr 59 (by kernel_rfl), hfr 60 (by kernel_rfl), hfr 61 (by kernel_rfl), hfr 62 (by kernel_rfl), hfr 63 (by kernel_rfl), hfr 64 (by kernel_rfl), hfr 65 (by kernel_rfl), hfr 66 (by kernel_rfl), hfr 67 (by kernel_rfl), hfr 68 (by kernel_rfl), hfr 69 (by kernel_rfl), hfr 70 (by kernel_rfl), hfr 71 (by kernel_rfl), hfr 72 (by kernel_rfl), hfr 73 (by kernel_rfl), hfr 74 (by kernel_rfl), hfr 75 (by kernel_rfl), hfr 76 (by kernel_rfl), hfr 77 (by kernel_rfl), hfr 78 (by kernel_rfl), hfr 79 (by kernel_rfl), hfr 80 (by kernel_rfl), hfr 81 (by kernel_rfl), hfr 82 (by kernel_rfl), hfr 83 (by kernel_rfl), hfr 84 (by kernel_rfl), hfr 85 (by kernel_rfl), hfr 86 (by kernel_rfl), hfr 87 (by kernel_rfl), hfr 88 (by kernel_rfl), hfr 89 (by kernel_rfl), hfr 90 (by kernel_rfl), hfr 91 (by kernel_rfl), hfr 92 (by kernel_rfl), hfr 93 (by kernel_rfl), hfr 94 (by kernel_rfl), hfr 95 (by kernel_rfl), hfr 96 (by kernel_rfl), hfr 97 (by kernel_rfl), hfr 98 (by kernel_rfl), hfr 99 (by kernel_rfl), hfr 100 (by kernel_rfl), hfr 101 (by kernel_rfl), hfr 102 (by kernel_rfl), hfr 103 (by kernel_rfl), hfr 104 (by kernel_rfl), hfr 105 (by kernel_rfl), hfr 106 (by kernel_rfl), hfr 107 (by kernel_rfl), hfr 108 (by kernel_rfl), hfr 109 (by kernel_rfl), hfr 110 (by kernel_rfl), hfr 111 (by kernel_rfl), hfr 112 (by kernel_rfl), hfr 113 (by kernel_rfl), hfr 114 (by kernel_rfl), hfr 115 (by kernel_rfl), hfr 116 (by kernel_rfl), hfr 117 (by kernel_rfl), hfr 118 (by kernel_rfl), hfr 119 (by kernel_rfl), hfr 120 (by kernel_rfl), hfr 121 (by kernel_rfl), hfr 122 (by kernel_rfl), hfr 123 (by kernel_rfl), hfr 124 (by kernel_rfl), hfr 125 (by kernel_rfl), hfr 126 (by kernel_rfl), hfr 127 (by kernel_rfl), hfr 128 (by kernel_rfl), hfr 129 (by kernel_rfl), hfr 130 (by kernel_rfl), hfr 131 (by kernel_rfl), hfr 132 (by kernel_rfl), hfr 133 (by kernel_rfl), hfr 134 (by kernel_rfl), hfr 135 (by kernel_rfl), hfr 136 (by kernel_rfl), hfr 137 (by kernel_rfl), hfr 138 (by kernel_rfl), hfr 139 (by kernel_rfl), hfr 140 (by kernel_rfl), hfr 141 (by kernel_rfl), hfr 142 (by kernel_rfl), hfr 143 (by kernel_rfl), hfr 171 (by kernel_rfl), hfr 172 (by kernel_rfl), hfr 173 (by kernel_rfl), hfr 174 (by kernel_rfl), hfr 175 (by kernel_rfl), hfr 176 (by kernel_rfl), hfr 177 (by kernel_rfl), hfr 178 (by kernel_rfl), hfr 179 (by kernel_rfl), hfr 180 (by kernel_rfl), hfr 181 (by kernel_rfl), hfr 182 (by kernel_rfl), hfr 183 (by kernel_rfl), hfr 184 (by kernel_rfl), hfr 185 (by kernel_rfl), hfr 186 (by kernel_rfl), hfr 187 (by kernel_rfl), hfr 188 (by kernel_rfl), hfr 189 (by kernel_rfl), hfr 190 (by kernel_rfl), hfr 191 (by kernel_rfl), hfr 192 (by kernel_rfl), hfr 193 (by kernel_rfl), hfr 194 (by kernel_rfl), hfr 195 (by kernel_rfl), hfr 196 (by kernel_rfl), hfr 197 (by kernel_rfl), hfr 198 (by kernel_rfl), hfr 199 (by kernel_rfl), hfr 200 (by kernel_rfl), hfr 201 (by kernel_rfl), hfr 202 (by kernel_rfl), hfr 203 (by kernel_rfl), hfr 204 (by kernel_rfl), hfr 205 (by kernel_rfl), hfr 206 (by kernel_rfl), hfr 207 (by kernel_rfl), hfr 208 (by kernel_rfl), hfr 209 (by kernel_rfl), hfr 210 (by kernel_rfl), hfr 211 (by kernel_rfl), hfr 212 (by kernel_rfl), hfr 213 (by kernel_rfl), hfr 214 (by kernel_rfl), hfr 215 (by kernel_rfl), hfr 216 (by kernel_rfl), hfr 217 (by kernel_rfl), hfr 218 (by kernel_rfl)]
                      simp only [Array.getD_eq_getD_getElem?, List.getElem?_toArray, List.getElem?_cons_succ, List.getElem?_cons_zero, Option.getD_some]
                      have t0 : (tm[144]?.getD undef) = .bool false := by have h := hto 0 (by decide); simp only [Array.getD_eq_getD_getElem?] at h; exact h
                      have t1 : (tm[145]?.getD undef) = .bool false := by have h := hto 1 (by decide); simp only [Array.getD_eq_getD_getElem?] at h; exact h
                      have t2 : (tm[146]?.getD undef) = .slice (some ⟨b1, o1, none⟩) nn nc := by have h := hto 2 (by decide); simp only [Array.getD_eq_getD_getElem?] at h; exact h
                      have t3 : (tm[147]?.getD undef) = .int .i64 (jr : Int) := by have h := hto 3 (by decide); simp only [Array.getD_eq_getD_getElem?] at h; exact h
                      have t4 : (tm[148]?.getD undef) = .pointer (some ⟨b1, o1 + jr * 3, none⟩) := by have h := hto 4 (by decide); simp only [Array.getD_eq_getD_getElem?] at h; exact h
                      have t5 : (tm[149]?.getD undef) = .pointer (some ⟨b1, o1 + jr * 3, none⟩) := by have h := hto 5 (by decide); simp only [Array.getD_eq_getD_getElem?] at h; exact h
                      have t6 : (tm[150]?.getD undef) = .slice la 1 lc := by have h := hto 6 (by decide); simp only [Array.getD_eq_getD_getElem?] at h; exact h
                      have t7 : (tm[151]?.getD undef) = .slice (some ⟨b1, o1, none⟩) nn nc := by have h := hto 7 (by decide); simp only [Array.getD_eq_getD_getElem?] at h; exact h
                      have t8 : (tm[152]?.getD undef) = .int .i64 (q : Int) := by have h := hto 8 (by decide); simp only [Array.getD_eq_getD_getElem?] at h; exact h
                      have t9 : (tm[153]?.getD undef) = .pointer (some ⟨b1, o1 + q * 3, none⟩) := by have h := hto 9 (by decide); simp only [Array.getD_eq_getD_getElem?] at h; exact h
                      have t10 : (tm[154]?.getD undef) = .pointer (some ⟨b1, o1 + q * 3 + 1, none⟩) := by have h := hto 10 (by decide); simp only [Array.getD_eq_getD_getElem?] at h; exact h
                      have t11 : (tm[155]?.getD undef) = .slice ja jn jc := by have h := hto 11 (by decide); simp only [Array.getD_eq_getD_getElem?] at h; exact h
                      have t12 : (tm[156]?.getD undef) = .bool true := by have h := hto 12 (by decide); simp only [Array.getD_eq_getD_getElem?] at h; exact h
                      have t13 : (tm[157]?.getD undef) = .bool true := by have h := hto 13 (by decide); simp only [Array.getD_eq_getD_getElem?] at h; exact h
                      have t14 : (tm[158]?.getD undef) = .slice (some ⟨b1, o1, none⟩) nn nc := by have h := hto 14 (by decide); simp only [Array.getD_eq_getD_getElem?] at h; exact h
                      have t15 : (tm[159]?.getD undef) = .int .i64 (jr : Int) := by have h := hto 15 (by decide); simp only [Array.getD_eq_getD_getElem?] at h; exact h
                      have t16 : (tm[160]?.getD undef) = .pointer (some ⟨b1, o1 + jr * 3, none⟩) := by have h := hto 16 (by decide); simp only [Array.getD_eq_getD_getElem?] at h; exact h
                      have t17 : (tm[161]?.getD undef) = .pointer (some ⟨b1, o1 + jr * 3 + 1, none⟩) := by have h := hto 17 (by decide); simp only [Array.getD_eq_getD_getElem?] at h; exact h
                      have t18 : (tm[162]?.getD undef) = .slice ra 1 rc := by have h := hto 18 (by decide); simp only [Array.getD_eq_getD_getElem?] at h; exact h
                      have t19 : (tm[163]?.getD undef) = .slice (some ⟨b1, o1, none⟩) nn nc := by have h := hto 19 (by decide); simp only [Array.getD_eq_getD_getElem?] at h; exact h
                      have t20 : (tm[164]?.getD undef) = .int .i64 (q : Int) := by have h := hto 20 (by decide); simp only [Array.getD_eq_getD_getElem?] at h; exact h
                      have t21 : (tm[165]?.getD undef) = .pointer (some ⟨b1, o1 + q * 3, none⟩) := by have h := hto 21 (by decide); simp only [Array.getD_eq_getD_getElem?] at h; exact h
                      have t22 : (tm[166]?.getD undef) = .pointer (some ⟨b1, o1 + q * 3, none⟩) := by have h := hto 22 (by decide); simp only [Array.getD_eq_getD_getElem?] at h; exact h
                      have t23 : (tm[167]?.getD undef) = .slice ka kn kc := by have h := hto 23 (by decide); simp only [Array.getD_eq_getD_getElem?] at h; exact h
                      have t24 : (tm[168]?.getD undef) = .bool s2 := by have h := hto 24 (by decide); simp only [Array.getD_eq_getD_getElem?] at h; exact h
                      have t25 : (tm[169]?.getD undef) = .bool s2 := by have h := hto 25 (by decide); simp only [Array.getD_eq_getD_getElem?] at h; exact h
                      have t26 : (tm[170]?.getD undef) = .bool s2 := by have h := hto 26 (by decide); simp only [Array.getD_eq_getD_getElem?] at h; exact h
                      have t27 : (tm[23]?.getD undef) = .bool s2 := by have h := hto 27 (by decide); simp only [Array.getD_eq_getD_getElem?] at h; exact h
                      clear hto
                      generalize tm[23]?.getD undef = y23 at *
                      generalize tm[144]?.getD undef = y144 at *
                      generalize tm[145]?.getD undef = y145 at *
                      generalize tm[146]?.getD undef = y146 at *
                      generalize tm[147]?.getD undef = y147 at *
                      generalize tm[148]?.getD undef = y148 at *
                      generalize tm[149]?.getD undef = y149 at *
                      generalize tm[150]?.getD undef = y150 at *
                      generalize tm[151]?.getD undef = y151 at *
                      generalize tm[152]?.getD undef = y152 at *
                      generalize tm[153]?.getD undef = y153 at *
                      generalize tm[154]?.getD undef = y154 at *
                      generalize tm[155]?.getD undef = y155 at *
                      generalize tm[156]?.getD undef = y156 at *
                      generalize tm[157]?.getD undef = y157 at *
                      generalize tm[158]?.getD undef = y158 at *
                      generalize tm[159]?.getD undef = y159 at *
                      generalize tm[160]?.getD undef = y160 at *
                      generalize tm[161]?.getD undef = y161 at *
                      generalize tm[162]?.getD undef = y162 at *
                      generalize tm[163]?.getD undef = y163 at *
                      generalize tm[164]?.getD undef = y164 at *
                      generalize tm[165]?.getD undef = y165 at *
                      generalize tm[166]?.getD undef = y166 at *
                      generalize tm[167]?.getD undef = y167 at *
                      generalize tm[168]?.getD undef = y168 at *
                      generalize tm[169]?.getD undef = y169 at *
                      generalize tm[170]?.getD undef = y170 at *
                      clear hfr hsz tm
                      obtain rfl := t27
                      have hb9 := grown_below7 hJ
                      have HB9 : Hid (Below wo.heap.size wo w9) := HBI.out.trans (hb9.mono HBI.out.size)
                      have HK9 : Hid (Below w.heap.size w w9 ∧ w9.heap[g2]? = some (.cells #[.slice ba2 bn2 bc2, .slice ra2 rn2 rc2] 32 (0, 0)) ∧ Rs w9 (some ⟨b1, o1, none⟩) nn nc outs ∧ Rs w9 ra2 rn2 rc2 ys2) := ⟨HKI.out.1.trans (hb9.mono HKI.out.1.size), (hb9.block _ (Array.getElem?_eq_some_iff.1 HKI.out.2.1).1).trans HKI.out.2.1, HKI.out.2.2.1.below hb9 (Nat.le_refl _), HKI.out.2.2.2.below hb9 (Nat.le_refl _)⟩
                      clear t0 t1 t2 t3 t4 t5 t6 t7 t8 t9 t10 t11 t12 t13 t14 t15 t16 t17 t18 t19 t20 t21 t22 t23 t24 t25 t26 hJ hb9
                      go_wp2
                      go_roundw
                      case rel => exact ⟨q + 1, s2, by omega, by go_num, rfl, HRES.out, HK9.out, HB9.out⟩
                      case measure => simp [intOf]; omega
                  · have HRES : Hid (Spec.hasT NL x y (q + 1) = true) := by
                      show Spec.hasT NL x y (q + 1) = true
                      rw [HNX.out, Bool.true_or]
                    go_wp2_with fail
                    refine wp_region_told2 HMX.out 28 [(144, 144), (145, 145), (146, 146), (147, 147), (148, 148), (149, 149), (150, 150), (151, 151), (152, 152), (153, 153), (154, 154), (155, 155), (156, 156), (157, 157), (158, 158), (159, 159), (160, 160), (161, 161), (162, 162), (163, 163), (164, 164), (165, 165), (166, 166), (167, 167), (168, 168), (169, 169), (170, 170), (23, 23)]
                      (fun (j : Nat) (v u : Value) (w0 : World) => match j with
                        | 0 => v = .bool true
                        | 1 => v = .bool true
                        | 2 => True
                        | 3 => True
                        | 4 => True
                        | 5 => True
                        | 6 => True
                        | 7 => True
                        | 8 => True
                        | 9 => True
                        | 10 => True
                        | 11 => True
                        | 12 => True
                        | 13 => v = undef
                        | 14 => True
                        | 15 => True
                        | 16 => True
                        | 17 => True
                        | 18 => True
                        | 19 => True
                        | 20 => True
                        | 21 => True
                        | 22 => True
                        | 23 => True
                        | 24 => True
                        | 25 => True
                        | 26 => v = .bool true
                        | 27 => v = .bool true
                        | _ => True)
                      (fun W => (wr).drew.grownBy W none) (fun _ _ _ => False) (by kernel_rfl) (by kernel_rfl) (World.grownBy.refl _ _) (fun _ _ h1 h2 => h1.trans h2) (fun _ _ _ _ h => h.elim) ?_ ?_ ?_ ?_
                    · intro j v u w0 w' h hg
                      match j, h with
                      | 0, h => exact h
                      | 1, h => exact h
                      | 2, h => trivial
                      | 3, h => trivial
                      | 4, h => trivial
                      | 5, h => trivial
                      | 6, h => trivial
                      | 7, h => trivial
                      | 8, h => trivial
                      | 9, h => trivial
                      | 10, h => trivial
                      | 11, h => trivial
                      | 12, h => trivial
                      | 13, h => exact h
                      | 14, h => trivial
                      | 15, h => trivial
                      | 16, h => trivial
                      | 17, h => trivial
                      | 18, h => trivial
                      | 19, h => trivial
                      | 20, h => trivial
                      | 21, h => trivial
                      | 22, h => trivial
                      | 23, h => trivial
                      | 24, h => trivial
                      | 25, h => trivial
                      | 26, h => exact h
                      | 27, h => exact h
                      | j + 28, h => exact h
                    · intro j v u a0 w0 w' hne h hr
                      match j, hne, h with
                      | 0, hne, h => exact h
                      | 1, hne, h => exact h
                      | 2, hne, h => trivial
                      | 3, hne, h => trivial
                      | 4, hne, h => trivial
                      | 5, hne, h => trivial
                      | 6, hne, h => trivial
                      | 7, hne, h => trivial
                      | 8, hne, h => trivial
                      | 9, hne, h => trivial
                      | 10, hne, h => trivial
                      | 11, hne, h => trivial
                      | 12, hne, h => trivial
                      | 13, hne, h => exact h
                      | 14, hne, h => trivial
                      | 15, hne, h => trivial
                      | 16, hne, h => trivial
                      | 17, hne, h => trivial
                      | 18, hne, h => trivial
                      | 19, hne, h => trivial
                      | 20, hne, h => trivial
                      | 21, hne, h => trivial
                      | 22, hne, h => trivial
                      | 23, hne, h => trivial
                      | 24, hne, h => trivial
                      | 25, hne, h => trivial
                      | 26, hne, h => exact h
                      | 27, hne, h => exact h
                      | j + 28, _, h => exact h
                    · intro i1 o ho a1 w1 hJ hw ht
                      match i1, ho with
                      | 0, ho =>
                        obtain rfl := Option.some.inj ho
                        exact StepsTo.move rfl (.tmp 23) (.inl rfl) ⟨(show a1.eval (.tmp 23) = .bool true from (hw 23 (by kernel_rfl))), fun h => absurd h (by decide), fun _ => World.grownBy.refl _ _⟩
                      | 1, ho =>
                        obtain rfl := Option.some.inj ho
                        exact StepsTo.move rfl (.tmp 144) (.inl rfl) ⟨(show a1.eval (.tmp 144) = .bool true from (ht 0 (by kernel_rfl))), fun h => absurd h (by decide), fun _ => World.grownBy.refl _ _⟩
                      | 2, ho =>
                        obtain rfl := Option.some.inj ho
                        exact StepsTo.passed (passed_of rfl rfl (show a1.eval (.tmp 145) = .bool true from (ht 1 (by kernel_rfl))) (by decide)) ⟨trivial, fun h => absurd h (by decide), fun _ => World.grownBy.refl _ _⟩
                      | 3, ho =>
                        obtain rfl := Option.some.inj ho
                        exact StepsTo.passed (passed_of rfl rfl (show a1.eval (.tmp 145) = .bool true from (ht 1 (by kernel_rfl))) (by decide)) ⟨trivial, fun h => absurd h (by decide), fun _ => World.grownBy.refl _ _⟩
                      | 4, ho =>
                        obtain rfl := Option.some.inj ho
                        exact StepsTo.passed (passed_of rfl rfl (show a1.eval (.tmp 145) = .bool true from (ht 1 (by kernel_rfl))) (by decide)) ⟨trivial, fun h => absurd h (by decide), fun _ => World.grownBy.refl _ _⟩
                      | 5, ho =>
                        obtain rfl := Option.some.inj ho
                        exact StepsTo.passed (passed_of rfl rfl (show a1.eval (.tmp 145) = .bool true from (ht 1 (by kernel_rfl))) (by decide)) ⟨trivial, fun h => absurd h (by decide), fun _ => World.grownBy.refl _ _⟩
                      | 6, ho =>
                        obtain rfl := Option.some.inj ho
                        exact StepsTo.passed (passed_of rfl rfl (show a1.eval (.tmp 145) = .bool true from (ht 1 (by kernel_rfl))) (by decide)) ⟨trivial, fun h => absurd h (by decide), fun _ => World.grownBy.refl _ _⟩
                      | 7, ho =>
                        obtain rfl := Option.some.inj ho
                        exact StepsTo.passed (passed_of rfl rfl (show a1.eval (.tmp 145) = .bool true from (ht 1 (by kernel_rfl))) (by decide)) ⟨trivial, fun h => absurd h (by decide), fun _ => World.grownBy.refl _ _⟩
                      | 8, ho =>
                        obtain rfl := Option.some.inj ho
                        exact StepsTo.passed (passed_of rfl rfl (show a1.eval (.tmp 145) = .bool true from (ht 1 (by kernel_rfl))) (by decide)) ⟨trivial, fun h => absurd h (by decide), fun _ => World.grownBy.refl _ _⟩
                      | 9, ho =>
                        obtain rfl := Option.some.inj ho
                        exact StepsTo.passed (passed_of rfl rfl (show a1.eval (.tmp 145) = .bool true from (ht 1 (by kernel_rfl))) (by decide)) ⟨trivial, fun h => absurd h (by decide), fun _ => World.grownBy.refl _ _⟩
                      | 10, ho =>
                        obtain rfl := Option.some.inj ho
                        exact StepsTo.passed (passed_of rfl rfl (show a1.eval (.tmp 145) = .bool true from (ht 1 (by kernel_rfl))) (by decide)) ⟨trivial, fun h => absurd h (by decide), fun _ => World.grownBy.refl _ _⟩
                      | 11, ho =>
                        obtain rfl := Option.some.inj ho
                        exact StepsTo.passed (passed_of rfl rfl (show a1.eval (.tmp 145) = .bool true from (ht 1 (by kernel_rfl))) (by decide)) ⟨trivial, fun h => absurd h (by decide), fun _ => World.grownBy.refl _ _⟩
                      | 12, ho =>
                        obtain rfl := Option.some.inj ho
                        exact StepsTo.passed (passed_of rfl rfl (show a1.eval (.tmp 145) = .bool true from (ht 1 (by kernel_rfl))) (by decide)) ⟨trivial, fun h => absurd h (by decide), fun _ => World.grownBy.refl _ _⟩
                      | 13, ho =>
                        obtain rfl := Option.some.inj ho
                        exact StepsTo.passed (passed_of rfl rfl (show a1.eval (.tmp 145) = .bool true from (ht 1 (by kernel_rfl))) (by decide)) ⟨rfl, fun h => absurd h (by decide), fun _ => World.grownBy.refl _ _⟩
                      | 14, ho =>
                        obtain rfl := Option.some.inj ho
                        exact StepsTo.passed (passed_undef rfl rfl (show a1.eval (.tmp 157) = undef from (ht 13 (by kernel_rfl)))) ⟨trivial, fun h => absurd h (by decide), fun _ => World.grownBy.refl _ _⟩
                      | 15, ho =>
                        obtain rfl := Option.some.inj ho
                        exact StepsTo.passed (passed_undef rfl rfl (show a1.eval (.tmp 157) = undef from (ht 13 (by kernel_rfl)))) ⟨trivial, fun h => absurd h (by decide), fun _ => World.grownBy.refl _ _⟩
                      | 16, ho =>
                        obtain rfl := Option.some.inj ho
                        exact StepsTo.passed (passed_undef rfl rfl (show a1.eval (.tmp 157) = undef from (ht 13 (by kernel_rfl)))) ⟨trivial, fun h => absurd h (by decide), fun _ => World.grownBy.refl _ _⟩
                      | 17, ho =>
                        obtain rfl := Option.some.inj ho
                        exact StepsTo.passed (passed_undef rfl rfl (show a1.eval (.tmp 157) = undef from (ht 13 (by kernel_rfl)))) ⟨trivial, fun h => absurd h (by decide), fun _ => World.grownBy.refl _ _⟩
                      | 18, ho =>
                        obtain rfl := Option.some.inj ho
                        exact StepsTo.passed (passed_undef rfl rfl (show a1.eval (.tmp 157) = undef from (ht 13 (by kernel_rfl)))) ⟨trivial, fun h => absurd h (by decide), fun _ => World.grownBy.refl _ _⟩
                      | 19, ho =>
                        obtain rfl := Option.some.inj ho
                        exact StepsTo.passed (passed_undef rfl rfl (show a1.eval (.tmp 157) = undef from (ht 13 (by kernel_rfl)))) ⟨trivial, fun h => absurd h (by decide), fun _ => World.grownBy.refl _ _⟩
                      | 20, ho =>
                        obtain rfl := Option.some.inj ho
                        exact StepsTo.passed (passed_undef rfl rfl (show a1.eval (.tmp 157) = undef from (ht 13 (by kernel_rfl)))) ⟨trivial, fun h => absurd h (by decide), fun _ => World.grownBy.refl _ _⟩
                      | 21, ho =>
                        obtain rfl := Option.some.inj ho
                        exact StepsTo.passed (passed_undef rfl rfl (show a1.eval (.tmp 157) = undef from (ht 13 (by kernel_rfl)))) ⟨trivial, fun h => absurd h (by decide), fun _ => World.grownBy.refl _ _⟩
                      | 22, ho =>
                        obtain rfl := Option.some.inj ho
                        exact StepsTo.passed (passed_undef rfl rfl (show a1.eval (.tmp 157) = undef from (ht 13 (by kernel_rfl)))) ⟨trivial, fun h => absurd h (by decide), fun _ => World.grownBy.refl _ _⟩
                      | 23, ho =>
                        obtain rfl := Option.some.inj ho
                        exact StepsTo.passed (passed_undef rfl rfl (show a1.eval (.tmp 157) = undef from (ht 13 (by kernel_rfl)))) ⟨trivial, fun h => absurd h (by decide), fun _ => World.grownBy.refl _ _⟩
                      | 24, ho =>
                        obtain rfl := Option.some.inj ho
                        exact StepsTo.passed (passed_undef rfl rfl (show a1.eval (.tmp 157) = undef from (ht 13 (by kernel_rfl)))) ⟨trivial, fun h => absurd h (by decide), fun _ => World.grownBy.refl _ _⟩
                      | 25, ho =>
                        obtain rfl := Option.some.inj ho
                        exact StepsTo.passed (passed_of rfl rfl (show a1.eval (.tmp 145) = .bool true from (ht 1 (by kernel_rfl))) (by decide)) ⟨trivial, fun h => absurd h (by decide), fun _ => World.grownBy.refl _ _⟩
                      | 26, ho =>
                        obtain rfl := Option.some.inj ho
                        exact StepsTo.of_run rfl (run_pick rfl (show a1.eval (.tmp 145) = .bool true from (ht 1 (by kernel_rfl))) rfl rfl) ⟨rfl, fun h => absurd h (by decide), fun _ => World.grownBy.refl _ _⟩
                      | 27, ho =>
                        obtain rfl := Option.some.inj ho
                        exact StepsTo.move rfl (.tmp 170) (.inr rfl) ⟨(ht 26 (by kernel_rfl)), fun h => absurd h (by decide), fun _ => World.grownBy.refl _ _⟩
                      | j1 + 28, ho => exact absurd (Array.getElem?_eq_some_iff.1 ho).1 (by simp)
                    intro tm w9 hsz hJ hfr hto
                    rw [act_lit2 tm (show tm.size = 219 from hsz)]
                    simp only [List.range, List.range.loop, List.map_cons, List.map_nil]
                    rw [hfr 0 (by kernel_rfl), hfr 1 (by kernel_rfl), hfr 2 (by kernel_rfl), hfr 3 (by kernel_rfl), hfr 4 (by kernel_rfl), hfr 5 (by kernel_rfl), hfr 6 (by kernel_rfl), hfr 7 (by kernel_rfl), hfr 8 (by kernel_rfl), hfr 9 (by kernel_rfl), hfr 10 (by kernel_rfl), hfr 11 (by kernel_rfl), hfr 12 (by kernel_rfl), hfr 13 (by kernel_rfl), hfr 14 (by kernel_rfl), hfr 15 (by kernel_rfl), hfr 16 (by kernel_rfl), hfr 17 (by kernel_rfl), hfr 18 (by kernel_rfl), hfr 19 (by kernel_rfl), hfr 20 (by kernel_rfl), hfr 21 (by kernel_rfl), hfr 22 (by kernel_rfl), hfr 24 (by kernel_rfl), hfr 25 (by kernel_rfl), hfr 26 (by kernel_rfl), hfr 27 (by kernel_rfl), hfr 28 (by kernel_rfl), hfr 29 (by kernel_rfl), hfr 30 (by kernel_rfl), hfr 31 (by kernel_rfl), hfr 32 (by kernel_rfl), hfr 33 (by kernel_rfl), hfr 34 (by kernel_rfl), hfr 35 (by kernel_rfl), hfr 36 (by kernel_rfl), hfr 37 (by kernel_rfl), hfr 38 (by kernel_rfl), hfr 39 (by kernel_rfl), hfr 40 (by kernel_rfl), hfr 41 (by kernel_rfl), hfr 42 (by kernel_rfl), hfr 43 (by kernel_rfl), hfr 44 (by kernel_rfl), hfr 45 (by kernel_rfl), hfr 46 (by kernel_rfl), hfr 47 (by kernel_rfl), hfr 48 (by kernel_rfl), hfr 49 (by kernel_rfl), hfr 50 (by kernel_rfl), hfr 51 (by kernel_rfl), hfr 52 (by kernel_rfl), hfr 53 (by kernel_rfl), hfr 54 (by kernel_rfl), hfr 55 (by kernel_rfl), hfr 56 (by kernel_rfl), hfr 57 (by kernel_rfl), hfr 58 (by kernel_rfl), hfr 59 (by kernel_rfl), hfr 60 (by kernel_rfl), hfr 61 (by kernel_rfl), hfr 62 (by kernel_rfl), hfr 63 (by kernel_rfl), hfr 64 (by kernel_rfl), hfr 65 (by kernel_rfl), hfr 66 (by kernel_rfl), hfr 67 (by kernel_rfl), hfr 68 (by kernel_rfl), hfr 69 (by kernel_rfl), hfr 70 (by kernel_rfl), hfr 71 (by kernel_rfl), hfr 72 (by kernel_rfl), hfr 73 (by kernel_rfl), hfr 74 (by kernel_rfl), hfr 75 (by kernel_rfl), hfr 76 (by kernel_rfl), hfr 77 (by kernel_rfl), hfr 78 (by kernel_rfl), hfr 79 (by kernel_rfl), hfr 80 (by kernel_rfl), hfr 81 (by kernel_rfl), hfr 82 (by kernel_rfl), hfr 83 (by kernel_rfl), hfr 84 (by kernel_rfl), hfr 85 (by kernel_rfl), hfr 86 (by kernel_rfl), hfr 87 (by kernel_rfl), hfr 88 (by kernel_rfl), hfr 89 (by kernel_rfl), hfr 90 (by kernel_rfl), hfr 91 (by kernel_rfl), hfr 92 (by kernel_rfl), hfr 93 (by kernel_rfl), hfr 94 (by kernel_rfl), hfr 95 (by kernel_rfl), hfr 96 (by kernel_rfl), hfr 97 (by kernel_rfl), hfr 98 (by kernel_rfl), hfr 99 (by kernel_rfl), hfr 100 (by kernel_rfl), hfr 101 (by kernel_rfl), hfr 102 (by kernel_rfl), hfr 103 (by kernel_rfl), hfr 104 (by kernel_rfl), hfr 105 (by kernel_rfl), hfr 106 (by kernel_rfl), hfr 107 (by kernel_rfl), hfr 108 (by kernel_rfl), hfr 109 (by kernel_rfl), hfr 110 (by kernel_rfl), hfr 111 (by kernel_rfl), hfr 112 (by kernel_rfl), hfr 113 (by kernel_rfl), hfr 114 (by kernel_rfl), hfr 115 (by kernel_rfl), hfr 116 (by kernel_rfl), hfr 117 (by kernel_rfl), hfr 118 (by kernel_rfl), hfr 119 (by kernel_rfl), hfr 120 (by kernel_rfl), hfr 121 (by kernel_rfl), hfr 122 (by kernel_rfl), hfr 123 (by kernel_rfl), hfr 124 (by kernel_rfl), hfr 125 (by kernel_rfl), hfr 126 (by kernel_rfl), hfr 127 (by kernel_rfl), hfr 128 (by kernel_rfl), hfr 129 (by kernel_rfl), hfr 130 (by kernel_rfl), hfr 131 (by kernel_rfl), hfr 132 (by kernel_rfl), hfr 133 (by kernel_rfl), hfr 134 (by kernel_rfl), hfr 135 (by kernel_rfl), hfr 136 (by kernel_rfl), hfr 137 (by kernel_rfl), hfr 138 (by kernel_rfl), hfr 139 (by kernel_rfl), hfr 140 (by kernel_rfl), hfr 141 (by kernel_rfl), hfr 142 (by kernel_rfl), hfr 143 (by kernel_rfl), hfr 171 (by kernel_rfl), hfr 172 (by kernel_rfl), hfr 173 (by kernel_rfl), hfr 174 (by kernel_rfl), hfr 175 (by kernel_rfl), hfr 176 (by kernel_rfl), hfr 177 (by kernel_rfl), hfr 178 (by kernel_rfl), hfr 179 (by kernel_rfl), hfr 180 (by kernel_rfl), hfr 181 (by kernel_rfl), hfr 182 (by kernel_rfl), hfr 183 (by kernel_rfl), hfr 184 (by kernel_rfl), hfr 185 (by kernel_rfl), hfr 186 (by kernel_rfl), hfr 187 (by kernel_rfl), hfr 188 (by kernel_rfl), hfr 189 (by kernel_rfl), hfr 190 (by kernel_rfl), hfr 191 (by kernel_rfl), hfr 192 (by kernel_rfl), hfr 193 (by kernel_rfl), hfr 194 (by kernel_rfl), hfr 195 (by kernel_rfl), hfr 196 (by kernel_rfl), hfr 197 (by kernel_rfl), hfr 198 (by kernel_rfl), hfr 199 (by kernel_rfl), hfr 200 (by kernel_rfl), hfr 201 (by kernel_rfl), hfr 202 (by kernel_rfl), hfr 203 (by kernel_rfl), hfr 204 (by kernel_rfl), hfr 205 (by kernel_rfl), hfr 206 (by kernel_rfl), hfr 207 (by kernel_rfl), hfr 208 (by kernel_rfl), hfr 209 (by kernel_rfl), hfr 210 (by kernel_rfl), hfr 211 (by kernel_rfl), hfr 212 (by kernel_rfl), hfr 213 (by kernel_rfl), hfr 214 (by kernel_rfl), hfr 215 (by kernel_rfl), hfr 216 (by kernel_rfl), hfr 217 (by kernel_rfl), hfr 218 (by kernel_rfl)]
                    simp only [Array.getD_eq_getD_getElem?, List.getElem?_toArray, List.getElem?_cons_succ, List.getElem?_cons_zero, Option.getD_some]
                    have t0 : (tm[144]?.getD undef) = .bool true := by have h := hto 0 (by decide); simp only [Array.getD_eq_getD_getElem?] at h; exact h
                    have t1 : (tm[145]?.getD undef) = .bool true := by have h := hto 1 (by decide); simp only [Array.getD_eq_getD_getElem?] at h; exact h
                    have t2 : True := by have h := hto 2 (by decide); simp only [Array.getD_eq_getD_getElem?] at h; exact h
                    have t3 : True := by have h := hto 3 (by decide); simp only [Array.getD_eq_getD_getElem?] at h; exact h
                    have t4 : True := by have h := hto 4 (by decide); simp only [Array.getD_eq_getD_getElem?] at h; exact h
                    have t5 : True := by have h := hto 5 (by decide); simp only [Array.getD_eq_getD_getElem?] at h; exact h
                    have t6 : True := by have h := hto 6 (by decide); simp only [Array.getD_eq_getD_getElem?] at h; exact h
                    have t7 : True := by have h := hto 7 (by decide); simp only [Array.getD_eq_getD_getElem?] at h; exact h
                    have t8 : True := by have h := hto 8 (by decide); simp only [Array.getD_eq_getD_getElem?] at h; exact h
                    have t9 : True := by have h := hto 9 (by decide); simp only [Array.getD_eq_getD_getElem?] at h; exact h
                    have t10 : True := by have h := hto 10 (by decide); simp only [Array.getD_eq_getD_getElem?] at h; exact h
                    have t11 : True := by have h := hto 11 (by decide); simp only [Array.getD_eq_getD_getElem?] at h; exact h
                    have t12 : True := by have h := hto 12 (by decide); simp only [Array.getD_eq_getD_getElem?] at h; exact h
                    have t13 : (tm[157]?.getD undef) = undef := by have h := hto 13 (by decide); simp only [Array.getD_eq_getD_getElem?] at h; exact h
                    have t14 : True := by have h := hto 14 (by decide); simp only [Array.getD_eq_getD_getElem?] at h; exact h
                    have t15 : True := by have h := hto 15 (by decide); simp only [Array.getD_eq_getD_getElem?] at h; exact h
                    have t16 : True := by have h := hto 16 (by decide); simp only [Array.getD_eq_getD_getElem?] at h; exact h
                    have t17 : True := by have h := hto 17 (by decide); simp only [Array.getD_eq_getD_getElem?] at h; exact h
                    have t18 : True := by have h := hto 18 (by decide); simp only [Array.getD_eq_getD_getElem?] at h; exact h
                    have t19 : True := by have h := hto 19 (by decide); simp only [Array.getD_eq_getD_getElem?] at h; exact h
                    have t20 : True := by have h := hto 20 (by decide); simp only [Array.getD_eq_getD_getElem?] at h; exact h
                    have t21 : True := by have h := hto 21 (by decide); simp only [Array.getD_eq_getD_getElem?] at h; exact h
                    have t22 : True := by have h := hto 22 (by decide); simp only [Array.getD_eq_getD_getElem?] at h; exact h
                    have t23 : True := by have h := hto 23 (by decide); simp only [Array.getD_eq_getD_getElem?] at h; exact h
                    have t24 : True := by have h := hto 24 (by decide); simp only [Array.getD_eq_getD_getElem?] at h; exact h
                    have t25 : True := by have h := hto 25 (by decide); simp only [Array.getD_eq_getD_getElem?] at h; exact h
                    have t26 : (tm[170]?.getD undef) = .bool true := by have h := hto 26 (by decide); simp only [Array.getD_eq_getD_getElem?] at h; exact h
                    have t27 : (tm[23]?.getD undef) = .bool true := by have h := hto 27 (by decide); simp only [Array.getD_eq_getD_getElem?] at h; exact h
                    clear hto
                    generalize tm[23]?.getD undef = y23 at *
                    generalize tm[144]?.getD undef = y144 at *
                    generalize tm[145]?.getD undef = y145 at *
                    generalize tm[146]?.getD undef = y146 at *
                    generalize tm[147]?.getD undef = y147 at *
                    generalize tm[148]?.getD undef = y148 at *
                    generalize tm[149]?.getD undef = y149 at *
                    generalize tm[150]?.getD undef = y150 at *
                    generalize tm[151]?.getD undef = y151 at *
                    generalize tm[152]?.getD undef = y152 at *
                    generalize tm[153]?.getD undef = y153 at *
                    generalize tm[154]?.getD undef = y154 at *
                    generalize tm[155]?.getD undef = y155 at *
                    generalize tm[156]?.getD undef = y156 at *
                    generalize tm[157]?.getD undef = y157 at *
                    generalize tm[158]?.getD undef = y158 at *
                    generalize tm[159]?.getD undef = y159 at *
                    generalize tm[160]?.getD undef = y160 at *
                    generalize tm[161]?.getD undef = y161 at *
                    generalize tm[162]?.getD undef = y162 at *
                    generalize tm[163]?.getD undef = y163 at *
                    generalize tm[164]?.getD undef = y164 at *
                    generalize tm[165]?.getD undef = y165 at *
                    generalize tm[166]?.getD undef = y166 at *
                    generalize tm[167]?.getD undef = y167 at *
                    generalize tm[168]?.getD undef = y168 at *
                    generalize tm[169]?.getD undef = y169 at *
                    generalize tm[170]?.getD undef = y170 at *
                    clear hfr hsz tm
                    obtain rfl := t27
                    have hb9 := grown_below7 hJ
                    have HB9 : Hid (Below wo.heap.size wo w9) := HBI.out.trans (hb9.mono HBI.out.size)
                    have HK9 : Hid (Below w.heap.size w w9 ∧ w9.heap[g2]? = some (.cells #[.slice ba2 bn2 bc2, .slice ra2 rn2 rc2] 32 (0, 0)) ∧ Rs w9 (some ⟨b1, o1, none⟩) nn nc outs ∧ Rs w9 ra2 rn2 rc2 ys2) := ⟨HKI.out.1.trans (hb9.mono HKI.out.1.size), (hb9.block _ (Array.getElem?_eq_some_iff.1 HKI.out.2.1).1).trans HKI.out.2.1, HKI.out.2.2.1.below hb9 (Nat.le_refl _), HKI.out.2.2.2.below hb9 (Nat.le_refl _)⟩
                    clear t0 t1 t2 t3 t4 t5 t6 t7 t8 t9 t10 t11 t12 t13 t14 t15 t16 t17 t18 t19 t20 t21 t22 t23 t24 t25 t26 hJ hb9
                    go_wp2
                    go_roundw
                    case rel => exact ⟨q + 1, true, by omega, by go_num, rfl, HRES.out, HK9.out, HB9.out⟩
                    case measure => simp [intOf]; omega
                · obtain rfl : q = nn := by omega
                  obtain rfl : h = true := by
                    have h1 := HH.out
                    rw [← HNN.out, Spec.hasT_all HTW.out] at h1
                    exact h1.symm
                  have hA1 := HA1.out
                  have hA2 := HA2.out
                  have hA3 := HA3.out
                  go_wp2
                  go_roundw
                  case rel => exact ⟨jr + 1, by omega, by go_num, HKI.out⟩
                  case measure => simp [intOf]; omega
            · obtain rfl : jr = nn := by omega
              have hcb : wr.cell? ⟨g2, 1, none⟩ = some (.slice ra2 rn2 rc2) := by simp [World.cell?, HK.out.2.1]
              go_wp2_with fail
              refine (norm_any _ _ _ ys2 _ HK.out.2.2.2 HM2.out).mono ?_
              rintro e v7 ⟨ma, mn, mc, outs2, rfl, hro2, huo2, _, _, hb7⟩
              have HRO2 := Lib.hid hro2
              have HUO2 := Lib.hid huo2
              have HR7 := Lib.hid (HK.out.2.2.1.below hb7 (Nat.le_refl _))
              have HB7 : Hid (Below w.heap.size w v7) := HK.out.1.trans (hb7.mono HK.out.1.size)
              clear hro2 huo2 hb7 hcb
              go_wp2_with fail
              refine (rsames_is _ _ _ _ _ _ outs2 outs true v7 HRO2.out HR7.out (by rw [HUO2.out, HUO.out, ← HNL.out, HU1.out, HU2.out, ← HTS.out, Spec.rot_class]; simp)).mono ?_
              rintro e v8 ⟨rfl, hq8⟩
              have HB8 : Hid (Below w.heap.size w v8) := HB7.out.trans ((below_drawn (Below.refl _ _) hq8).mono HB7.out.size)
              clear hq8
              go_wp2
              go_ret
              exact ⟨rfl, HB8.out⟩
        · -- rows: True
          obtain ⟨LN1, hle1⟩ : ∃ l, [75, 69, 89, 32] ++ so ++ [32] ++ dg = l := ⟨_, rfl⟩
          have HLL1 : Hid (LN1.length ≤ 1000) := by
            show LN1.length ≤ 1000
            rw [← hle1]
            have h1 := HSL1.out
            have h2 := HDL.out
            simp only [List.length_append, List.length_cons, List.length_nil]
            omega
          have HLW1 : Hid (∀ z ∈ LN1, (Lit.int .u8 z).wf = true) := by
            show ∀ z ∈ LN1, (Lit.int .u8 z).wf = true
            rw [← hle1]
            intro z hz
            rcases List.mem_append.1 hz with hz | hz
            · rcases List.mem_append.1 hz with hz | hz
              · rcases List.mem_append.1 hz with hz | hz
                · exact (show ∀ z ∈ ([75, 69, 89, 32] : List Int), (Lit.int .u8 z).wf = true by decide) z hz
                · exact HSO1.out.2.2.2.1 z hz
              · exact (show ∀ z ∈ ([32] : List Int), (Lit.int .u8 z).wf = true by decide) z hz
            · exact HDW.out z hz
          obtain ⟨⟨E1, BS1, RL1⟩, hrd1⟩ : ∃ s, Spec.read LN1 = s := ⟨_, rfl⟩
          have HRD1 := Lib.hid hrd1
          have HSP1 : Hid ((⟨E1, BS1, RL1⟩ : Spec.Sp) = (⟨0, [], Spec.keysG (c : Int) 0 0 xs⟩ : Spec.Sp)) := by show _ = (⟨0, [], Spec.keysG (c : Int) 0 0 xs⟩ : Spec.Sp); rw [← hrd1, ← hle1]; exact (by rw [← HDG.out, ← HPU.out]; exact Spec.read_row_fair HFA.out HG.out HXN.out (by have := HXL.out; omega) HCM.out)
          have HLE1 := Lib.hid hle1
          clear hle1 hrd1
          have HSO2 := HSOb
          obtain ⟨LN2, hle2⟩ : ∃ l, [75, 69, 89, 32] ++ to ++ [32] ++ dg = l := ⟨_, rfl⟩
          have HLL2 : Hid (LN2.length ≤ 1000) := by
            show LN2.length ≤ 1000
            rw [← hle2]
            have h1 := HSL2.out
            have h2 := HDL.out
            simp only [List.length_append, List.length_cons, List.length_nil]
            omega
          have HLW2 : Hid (∀ z ∈ LN2, (Lit.int .u8 z).wf = true) := by
            show ∀ z ∈ LN2, (Lit.int .u8 z).wf = true
            rw [← hle2]
            intro z hz
            rcases List.mem_append.1 hz with hz | hz
            · rcases List.mem_append.1 hz with hz | hz
              · rcases List.mem_append.1 hz with hz | hz
                · exact (show ∀ z ∈ ([75, 69, 89, 32] : List Int), (Lit.int .u8 z).wf = true by decide) z hz
                · exact HSO2.out.2.2.2.1 z hz
              · exact (show ∀ z ∈ ([32] : List Int), (Lit.int .u8 z).wf = true by decide) z hz
            · exact HDW.out z hz
          obtain ⟨⟨E2, BS2, RL2⟩, hrd2⟩ : ∃ s, Spec.read LN2 = s := ⟨_, rfl⟩
          have HRD2 := Lib.hid hrd2
          have HSP2 : Hid ((⟨E2, BS2, RL2⟩ : Spec.Sp) = (⟨0, [], Spec.keysG (c : Int) 0 0 ts⟩ : Spec.Sp)) := by show _ = (⟨0, [], Spec.keysG (c : Int) 0 0 ts⟩ : Spec.Sp); rw [← hrd2, ← hle2]; exact (by rw [← HDG.out, ← HPT.out]; exact Spec.read_row_fair HTF.out HGT.out HTNE.out (by have := HTL.out; omega) HCM.out)
          have HLE2 := Lib.hid hle2
          clear HSO2 hle2 hrd2
          go_wp2_with fail
          refine wp_region_told2 HMX.out 15 [(102, 102), (103, 103), (104, 104), (105, 105), (106, 106), (107, 107), (108, 108), (109, 109), (110, 110), (111, 111), (112, 112), (101, 101), (113, 113), (114, 114), (17, 17), (17, 17), (18, 18)]
            (fun (j : Nat) (v u : Value) (w0 : World) => match j with
              | 0 => v = .string (strOfNums [75, 69, 89, 32])
              | 1 => v = .slice (some ⟨sg, 0, none⟩) sn sc
              | 2 => v = .string (strOfNums so)
              | 3 => v = .string (strOfNums ([75, 69, 89, 32] ++ so))
              | 4 => v = .string (strOfNums (([75, 69, 89, 32] ++ so) ++ [32]))
              | 5 => v = .int .u64 (c : Int)
              | 6 => Str7 w0 dg v
              | 7 => v = .string (strOfNums dg)
              | 8 => v = .string (strOfNums LN1)
              | 9 => Str7 w0 LN1 v
              | 10 => Told7 w0 E1 RL1 v
              | 11 => Told7 w0 E1 RL1 v
              | 12 => Agg7 w0 RL1 v
              | 13 => v = .int .i64 E1
              | 14 => Box7 w0 v3.heap.size v
              | 15 => Full7 w0 v3.heap.size RL1 v
              | 16 => v = .int .i64 E1
              | _ => True)
            (fun W => (v3).drew.grownBy W none) (fun _ w0 w' => Turn7 v3.heap.size w0 w') (by kernel_rfl) (by kernel_rfl) (World.grownBy.refl _ _) (fun _ _ h1 h2 => h1.trans h2) (fun _ _ _ h1 h2 => fresh_turn h1 h2) ?_ ?_ ?_ ?_
          · intro j v u w0 w' h hg
            match j, h with
            | 0, h => exact h
            | 1, h => exact h
            | 2, h => exact h
            | 3, h => exact h
            | 4, h => exact h
            | 5, h => exact h
            | 6, h => exact h.kept hg
            | 7, h => exact h
            | 8, h => exact h
            | 9, h => exact h.kept hg
            | 10, h => exact h.kept hg
            | 11, h => exact h.kept hg
            | 12, h => exact h.kept hg
            | 13, h => exact h
            | 14, h => exact h.kept hg
            | 15, h => exact h.kept hg
            | 16, h => exact h
            | j + 17, h => exact h
          · intro j v u a0 w0 w' hne h hr
            match j, hne, h with
            | 0, hne, h => exact h
            | 1, hne, h => exact h
            | 2, hne, h => exact h
            | 3, hne, h => exact h
            | 4, hne, h => exact h
            | 5, hne, h => exact h
            | 6, hne, h => exact h.turned hr
            | 7, hne, h => exact h
            | 8, hne, h => exact h
            | 9, hne, h => exact h.turned hr
            | 10, hne, h => exact h.turned hr
            | 11, hne, h => exact h.turned hr
            | 12, hne, h => exact h.turned hr
            | 13, hne, h => exact h
            | 14, hne, h => exact h.turned hr
            | 15, hne, h => exact absurd rfl hne
            | 16, hne, h => exact h
            | j + 17, _, h => exact h
          · intro i1 o ho a1 w1 hJ hw ht
            match i1, ho with
            | 0, ho =>
              obtain rfl := Option.some.inj ho
              exact StepsTo.move rfl (.tmp 16) (.inl rfl) ⟨(hw 16 (by kernel_rfl)), fun h => absurd h (by decide), fun _ => World.grownBy.refl _ _⟩
            | 1, ho =>
              obtain rfl := Option.some.inj ho
              exact StepsTo.move rfl (.tmp 12) (.inl rfl) ⟨(hw 12 (by kernel_rfl)), fun h => absurd h (by decide), fun _ => World.grownBy.refl _ _⟩
            | 2, ho =>
              obtain rfl := Option.some.inj ho
              exact StepsTo.of_run rfl (run_str rfl (show a1.eval (.tmp 103) = .slice (some ⟨sg, 0, none⟩) sn sc from (ht 1 (by kernel_rfl))) (HSO1.out.below (grown_below7 hJ) (Nat.le_refl _))) ⟨rfl, fun h => absurd h (by decide), fun _ => World.grownBy.refl _ _⟩
            | 3, ho =>
              obtain rfl := Option.some.inj ho
              exact StepsTo.of_run rfl (run_addS rfl (show a1.eval (.tmp 102) = .string (strOfNums [75, 69, 89, 32]) from (ht 0 (by kernel_rfl))) (show a1.eval (.tmp 104) = .string (strOfNums so) from (ht 2 (by kernel_rfl))) (by simp only [str_size]; have := HSL1.out; have := HDL.out; simp only [List.length_cons, List.length_nil]; omega)) ⟨congrArg Value.string (str_app _ _), fun h => absurd h (by decide), fun _ => World.grownBy.refl _ _⟩
            | 4, ho =>
              obtain rfl := Option.some.inj ho
              exact StepsTo.of_run rfl (run_addS rfl (show a1.eval (.tmp 105) = .string (strOfNums ([75, 69, 89, 32] ++ so)) from (ht 3 (by kernel_rfl))) (show a1.eval (.const (.string ⟨#[32]⟩)) = .string (strOfNums [32]) from rfl) (by simp only [str_size]; have := HSL1.out; have := HDL.out; simp only [List.length_append, List.length_cons, List.length_nil]; omega)) ⟨congrArg Value.string (str_app _ _), fun h => absurd h (by decide), fun _ => World.grownBy.refl _ _⟩
            | 5, ho =>
              obtain rfl := Option.some.inj ho
              exact StepsTo.move rfl (.tmp 1) (.inl rfl) ⟨(hw 1 (by kernel_rfl)), fun h => absurd h (by decide), fun _ => World.grownBy.refl _ _⟩
            | 6, ho =>
              obtain rfl := Option.some.inj ho
              refine StepsTo.enter rfl _ _ (run_numWrite rfl (show a1.eval (.tmp 107) = .int .u64 (c : Int) from (ht 5 (by kernel_rfl)))) (write_any c HC64.out w1) (fun e w' h => ?_)
              obtain ⟨a', n', c', rfl, hn, hs, hnil, hb⟩ := h
              rw [HDG.out] at hn hs
              subst hn
              exact ⟨_, rfl, ⟨a', c', rfl, Sl.of_owns (k := .u8) hs HDW.out rfl, hnil⟩, fun h => absurd h (by decide), fun _ => below_grew7 hb⟩
            | 7, ho =>
              obtain rfl := Option.some.inj ho
              obtain ⟨p, d, h1, h2, _⟩ := ht 6 (by kernel_rfl)
              exact StepsTo.of_run rfl (run_str rfl (show a1.eval (.tmp 108) = .slice p dg.length d from h1) h2) ⟨rfl, fun h => absurd h (by decide), fun _ => World.grownBy.refl _ _⟩
            | 8, ho =>
              obtain rfl := Option.some.inj ho
              exact StepsTo.of_run rfl (run_addS rfl (show a1.eval (.tmp 106) = .string (strOfNums (([75, 69, 89, 32] ++ so) ++ [32])) from (ht 4 (by kernel_rfl))) (show a1.eval (.tmp 109) = .string (strOfNums dg) from (ht 7 (by kernel_rfl))) (by simp only [str_size]; have := HSL1.out; have := HDL.out; simp only [List.length_append, List.length_cons, List.length_nil]; omega)) ⟨congrArg Value.string ((str_app _ _).trans (congrArg strOfNums HLE1.out)), fun h => absurd h (by decide), fun _ => World.grownBy.refl _ _⟩
            | 9, ho =>
              obtain rfl := Option.some.inj ho
              exact steps_conv_back HLW1.out (by have := HLL1.out; omega) rfl rfl (show a1.eval (.tmp 110) = .string (strOfNums LN1) from (ht 8 (by kernel_rfl))) (fun d w' hs hg => ⟨⟨_, d, rfl, hs, fun e => by cases e⟩, fun h => absurd h (by decide), fun _ => hg⟩)
            | 10, ho =>
              obtain rfl := Option.some.inj ho
              obtain ⟨p, d, h1, h2, h3⟩ := ht 9 (by kernel_rfl)
              refine StepsTo.enter rfl _ _ (run_read7 rfl (show a1.eval (.tmp 111) = .slice p LN1.length d from h1)) (read7_is p LN1.length d LN1 ⟨E1, BS1, RL1⟩ w1 h2 h3 HLL1.out HRD1.out) (fun e w' h => ?_)
              obtain ⟨ba, bn, bc, ra, rn, rc, ys, rfl, _, _, hrs, hru, _, hb⟩ := h
              exact ⟨_, rfl, ⟨ba, bn, bc, ra, rn, rc, ys, rfl, hrs, hru⟩, fun h => absurd h (by decide), fun _ => below_grew7 hb⟩
            | 11, ho =>
              obtain rfl := Option.some.inj ho
              exact StepsTo.move rfl (.tmp 112) (.inl rfl) ⟨(ht 10 (by kernel_rfl)), fun h => absurd h (by decide), fun _ => World.grownBy.refl _ _⟩
            | 12, ho =>
              obtain rfl := Option.some.inj ho
              obtain ⟨ba, bn, bc, ra, rn, rc, ys, h1, hrs, hru⟩ := ht 11 (by kernel_rfl)
              exact StepsTo.of_run rfl (run_extract0 rfl (show a1.eval (.tmp 101) = .tuple #[.agg #[.slice ba bn bc, .slice ra rn rc], .int .i64 E1] from h1)) ⟨⟨ba, bn, bc, ra, rn, rc, ys, rfl, hrs, hru⟩, fun h => absurd h (by decide), fun _ => World.grownBy.refl _ _⟩
            | 13, ho =>
              obtain rfl := Option.some.inj ho
              obtain ⟨ba, bn, bc, ra, rn, rc, ys, h1, hrs, hru⟩ := ht 11 (by kernel_rfl)
              exact StepsTo.of_run rfl (run_extract1 rfl (show a1.eval (.tmp 101) = .tuple #[.agg #[.slice ba bn bc, .slice ra rn rc], .int .i64 E1] from h1)) ⟨rfl, fun h => absurd h (by decide), fun _ => World.grownBy.refl _ _⟩
            | 14, ho =>
              obtain rfl := Option.some.inj ho
              exact StepsTo.of_run (v := .pointer (some ⟨w1.heap.size, 0, none⟩)) (w' := w1.alloc (.cells #[.slice none 0 0, .slice none 0 0] 32)) rfl (by simp only [execOp]; go_simp) ⟨⟨_, _, _, _, _, _, _, rfl, hJ.size, heap_alloc_new _ _⟩, fun h => absurd h (by decide), fun _ => World.grownBy_alloc _ _ _⟩
            | 15, ho =>
              obtain rfl := Option.some.inj ho
              obtain ⟨g, x, n, d, y, m, q, h1, h2, h3⟩ := ht 14 (by kernel_rfl)
              obtain ⟨ba, bn, bc, ra, rn, rc, ys, h4, hrs, hru⟩ := ht 12 (by kernel_rfl)
              have h1' : a1.eval (.tmp 17) = .pointer (some ⟨g, 0, none⟩) := h1
              have h4' : a1.eval (.tmp 113) = .agg #[.slice ba bn bc, .slice ra rn rc] := h4
              refine steps_store_g rfl 32 (.tmp 17) (.tmp 113) rfl h1' h4' h3 HI.out rfl (spec_cells _ _ _ _ _ _) ?_
              intro w' hw' hg' hsz'
              exact ⟨⟨g, ba, bn, bc, ra, rn, rc, ys, h1', h2, hw', hrs.box h3 hg', hru⟩, fun _ => ⟨g, _, _, _, _, _, _, _, _, _, _, _, _, h2, h3, hg', hw'⟩, fun h => absurd rfl h⟩
            | 16, ho =>
              obtain rfl := Option.some.inj ho
              exact StepsTo.move rfl (.tmp 114) (.inr rfl) ⟨(ht 13 (by kernel_rfl)), fun h => absurd h (by decide), fun _ => World.grownBy.refl _ _⟩
            | j1 + 17, ho => exact absurd (Array.getElem?_eq_some_iff.1 ho).1 (by simp)
          intro tm v4 hsz hJ hfr hto
          rw [act_lit2 tm (show tm.size = 219 from hsz)]
          simp only [List.range, List.range.loop, List.map_cons, List.map_nil]
          rw [hfr 0 (by kernel_rfl), hfr 1 (by kernel_rfl), hfr 2 (by kernel_rfl), hfr 3 (by kernel_rfl), hfr 4 (by kernel_rfl), hfr 5 (by kernel_rfl), hfr 6 (by kernel_rfl), hfr 7 (by kernel_rfl), hfr 8 (by kernel_rfl), hfr 9 (by kernel_rfl), hfr 10 (by kernel_rfl), hfr 11 (by kernel_rfl), hfr 12 (by kernel_rfl), hfr 13 (by kernel_rfl), hfr 14 (by kernel_rfl), hfr 15 (by kernel_rfl), hfr 16 (by kernel_rfl), hfr 19 (by kernel_rfl), hfr 20 (by kernel_rfl), hfr 21 (by kernel_rfl), hfr 22 (by kernel_rfl), hfr 23 (by kernel_rfl), hfr 24 (by kernel_rfl), hfr 25 (by kernel_rfl), hfr 26 (by kernel_rfl), hfr 27 (by kernel_rfl), hfr 28 (by kernel_rfl), hfr 29 (by kernel_rfl), hfr 30 (by kernel_rfl), hfr 31 (by kernel_rfl), hfr 32 (by kernel_rfl), hfr 33 (by kernel_rfl), hfr 34 (by kernel_rfl), hfr 35 (by kernel_rfl), hfr 36 (by kernel_rfl), hfr 37 (by kernel_rfl), hfr 38 (by kernel_rfl), hfr 39 (by kernel_rfl), hfr 40 (by kernel_rfl), hfr 41 (by kernel_rfl), hfr 42 (by kernel_rfl), hfr 43 (by kernel_rfl), hfr 44 (by kernel_rfl), hfr 45 (by kernel_rfl), hfr 46 (by kernel_rfl), hfr 47 (by kernel_rfl), hfr 48 (by kernel_rfl), hfr 49 (by kernel_rfl), hfr 50 (by kernel_rfl), hfr 51 (by kernel_rfl), hfr 52 (by kernel_rfl), hfr 53 (by kernel_rfl), hfr 54 (by kernel_rfl), hfr 55 (by kernel_rfl), hfr 56 (by kernel_rfl), hfr 57 (by kernel_rfl), hfr 58 (by kernel_rfl), hfr 59 (by kernel_rfl), hfr 60 (by kernel_rfl), hfr 61 (by kernel_rfl), hfr 62 (by kernel_rfl), hfr 63 (by kernel_rfl), hfr 64 (by kernel_rfl), hfr 65 (by kernel_rfl), hfr 66 (by kernel_rfl), hfr 67 (by kernel_rfl), hfr 68 (by kernel_rfl), hfr 69 (by kernel_rfl), hfr 70 (by kernel_rfl), hfr 71 (by kernel_rfl), hfr 72 (by kernel_rfl), hfr 73 (by kernel_rfl), hfr 74 (by kernel_rfl), hfr 75 (by kernel_rfl), hfr 76 (by kernel_rfl), hfr 77 (by kernel_rfl), hfr 78 (by kernel_rfl), hfr 79 (by kernel_rfl), hfr 80 (by kernel_rfl), hfr 81 (by kernel_rfl), hfr 82 (by kernel_rfl), hfr 83 (by kernel_rfl), hfr 84 (by kernel_rfl), hfr 85 (by kernel_rfl), hfr 86 (by kernel_rfl), hfr 87 (by kernel_rfl), hfr 88 (by kernel_rfl), hfr 89 (by kernel_rfl), hfr 90 (by kernel_rfl), hfr 91 (by kernel_rfl), hfr 92 (by kernel_rfl), hfr 93 (by kernel_rfl), hfr 94 (by kernel_rfl), hfr 95 (by kernel_rfl), hfr 96 (by kernel_rfl), hfr 97 (by kernel_rfl), hfr 98 (by kernel_rfl), hfr 99 (by kernel_rfl), hfr 100 (by kernel_rfl), hfr 115 (by kernel_rfl), hfr 116 (by kernel_rfl), hfr 117 (by kernel_rfl), hfr 118 (by kernel_rfl), hfr 119 (by kernel_rfl), hfr 120 (by kernel_rfl), hfr 121 (by kernel_rfl), hfr 122 (by kernel_rfl), hfr 123 (by kernel_rfl), hfr 124 (by kernel_rfl), hfr 125 (by kernel_rfl), hfr 126 (by kernel_rfl), hfr 127 (by kernel_rfl), hfr 128 (by kernel_rfl), hfr 129 (by kernel_rfl), hfr 130 (by kernel_rfl), hfr 131 (by kernel_rfl), hfr 132 (by kernel_rfl), hfr 133 (by kernel_rfl), hfr 134 (by kernel_rfl), hfr 135 (by kernel_rfl), hfr 136 (by kernel_rfl), hfr 137 (by kernel_rfl), hfr 138 (by kernel_rfl), hfr 139 (by kernel_rfl), hfr 140 (by kernel_rfl), hfr 141 (by kernel_rfl), hfr 142 (by kernel_rfl), hfr 143 (by kernel_rfl), hfr 144 (by kernel_rfl), hfr 145 (by kernel_rfl), hfr 146 (by kernel_rfl), hfr 147 (by kernel_rfl), hfr 148 (by kernel_rfl), hfr 149 (by kernel_rfl), hfr 150 (by kernel_rfl), hfr 151 (by kernel_rfl), hfr 152 (by kernel_rfl), hfr 153 (by kernel_rfl), hfr 154 (by kernel_rfl), hfr 155 (by kernel_rfl), hfr 156 (by kernel_rfl), hfr 157 (by kernel_rfl), hfr 158 (by kernel_rfl), hfr 159 (by kernel_rfl), hfr 160 (by kernel_rfl), hfr 161 (by kernel_rfl), hfr 162 (by kernel_rfl), hfr 163 (by kernel_rfl), hfr 164 (by kernel_rfl), hfr 165 (by kernel_rfl), hfr 166 (by kernel_rfl), hfr 167 (by kernel_rfl), hfr 168 (by kernel_rfl), hfr 169 (by kernel_rfl), hfr 170 (by kernel_rfl), hfr 171 (by kernel_rfl), hfr 172 (by kernel_rfl), hfr 173 (by kernel_rfl), hfr 174 (by kernel_rfl), hfr 175 (by kernel_rfl), hfr 176 (by kernel_rfl), hfr 177 (by kernel_rfl), hfr 178 (by kernel_rfl), hfr 179 (by kernel_rfl), hfr 180 (by kernel_rfl), hfr 181 (by kernel_rfl), hfr 182 (by kernel_rfl), hfr 183 (by kernel_rfl), hfr 184 (by kernel_rfl), hfr 185 (by kernel_rfl), hfr 186 (by kernel_rfl), hfr 187 (by kernel_rfl), hfr 188 (by kernel_rfl), hfr 189 (by kernel_rfl), hfr 190 (by kernel_rfl), hfr 191 (by kernel_rfl), hfr 192 (by kernel_rfl), hfr 193 (by kernel_rfl), hfr 194 (by kernel_rfl), hfr 195 (by kernel_rfl), hfr 196 (by kernel_rfl), hfr 197 (by kernel_rfl), hfr 198 (by kernel_rfl), hfr 199 (by kernel_rfl), hfr 200 (by kernel_rfl), hfr 201 (by kernel_rfl), hfr 202 (by kernel_rfl), hfr 203 (by kernel_rfl), hfr 204 (by kernel_rfl), hfr 205 (by kernel_rfl), hfr 206 (by kernel_rfl), hfr 207 (by kernel_rfl), hfr 208 (by kernel_rfl), hfr 209 (by kernel_rfl), hfr 210 (by kernel_rfl), hfr 211 (by kernel_rfl), hfr 212 (by kernel_rfl), hfr 213 (by kernel_rfl), hfr 214 (by kernel_rfl), hfr 215 (by kernel_rfl), hfr 216 (by kernel_rfl), hfr 217 (by kernel_rfl), hfr 218 (by kernel_rfl)]
          simp only [Array.getD_eq_getD_getElem?, List.getElem?_toArray, List.getElem?_cons_succ, List.getElem?_cons_zero, Option.getD_some]
          have t0 : (tm[102]?.getD undef) = .string (strOfNums [75, 69, 89, 32]) := by have h := hto 0 (by decide); simp only [Array.getD_eq_getD_getElem?] at h; exact h
          have t1 : (tm[103]?.getD undef) = .slice (some ⟨sg, 0, none⟩) sn sc := by have h := hto 1 (by decide); simp only [Array.getD_eq_getD_getElem?] at h; exact h
          have t2 : (tm[104]?.getD undef) = .string (strOfNums so) := by have h := hto 2 (by decide); simp only [Array.getD_eq_getD_getElem?] at h; exact h
          have t3 : (tm[105]?.getD undef) = .string (strOfNums ([75, 69, 89, 32] ++ so)) := by have h := hto 3 (by decide); simp only [Array.getD_eq_getD_getElem?] at h; exact h
          have t4 : (tm[106]?.getD undef) = .string (strOfNums (([75, 69, 89, 32] ++ so) ++ [32])) := by have h := hto 4 (by decide); simp only [Array.getD_eq_getD_getElem?] at h; exact h
          have t5 : (tm[107]?.getD undef) = .int .u64 (c : Int) := by have h := hto 5 (by decide); simp only [Array.getD_eq_getD_getElem?] at h; exact h
          have t6 : Str7 v4 dg (tm[108]?.getD undef) := by have h := hto 6 (by decide); simp only [Array.getD_eq_getD_getElem?] at h; exact h
          have t7 : (tm[109]?.getD undef) = .string (strOfNums dg) := by have h := hto 7 (by decide); simp only [Array.getD_eq_getD_getElem?] at h; exact h
          have t8 : (tm[110]?.getD undef) = .string (strOfNums LN1) := by have h := hto 8 (by decide); simp only [Array.getD_eq_getD_getElem?] at h; exact h
          have t9 : Str7 v4 LN1 (tm[111]?.getD undef) := by have h := hto 9 (by decide); simp only [Array.getD_eq_getD_getElem?] at h; exact h
          have t10 : Told7 v4 E1 RL1 (tm[112]?.getD undef) := by have h := hto 10 (by decide); simp only [Array.getD_eq_getD_getElem?] at h; exact h
          have t11 : Told7 v4 E1 RL1 (tm[101]?.getD undef) := by have h := hto 11 (by decide); simp only [Array.getD_eq_getD_getElem?] at h; exact h
          have t12 : Agg7 v4 RL1 (tm[113]?.getD undef) := by have h := hto 12 (by decide); simp only [Array.getD_eq_getD_getElem?] at h; exact h
          have t13 : (tm[114]?.getD undef) = .int .i64 E1 := by have h := hto 13 (by decide); simp only [Array.getD_eq_getD_getElem?] at h; exact h
          have t14 : Box7 v4 v3.heap.size (tm[17]?.getD undef) := by have h := hto 14 (by decide); simp only [Array.getD_eq_getD_getElem?] at h; exact h
          have t15 : Full7 v4 v3.heap.size RL1 (tm[17]?.getD undef) := by have h := hto 15 (by decide); simp only [Array.getD_eq_getD_getElem?] at h; exact h
          have t16 : (tm[18]?.getD undef) = .int .i64 E1 := by have h := hto 16 (by decide); simp only [Array.getD_eq_getD_getElem?] at h; exact h
          clear hto
          generalize tm[17]?.getD undef = y17 at *
          generalize tm[18]?.getD undef = y18 at *
          generalize tm[101]?.getD undef = y101 at *
          generalize tm[102]?.getD undef = y102 at *
          generalize tm[103]?.getD undef = y103 at *
          generalize tm[104]?.getD undef = y104 at *
          generalize tm[105]?.getD undef = y105 at *
          generalize tm[106]?.getD undef = y106 at *
          generalize tm[107]?.getD undef = y107 at *
          generalize tm[108]?.getD undef = y108 at *
          generalize tm[109]?.getD undef = y109 at *
          generalize tm[110]?.getD undef = y110 at *
          generalize tm[111]?.getD undef = y111 at *
          generalize tm[112]?.getD undef = y112 at *
          generalize tm[113]?.getD undef = y113 at *
          generalize tm[114]?.getD undef = y114 at *
          clear hfr hsz tm
          obtain rfl := t16
          obtain ⟨g1, ba1, bn1, bc1, ra1, rn1, rc1, ys1, rfl, hg1, hx1, hr1, hu1⟩ := t15
          have HB4 : Hid (Below w.heap.size w v4) := HB3.out.trans ((grown_below7 hJ).mono HB3.out.size)
          have HX1 := Lib.hid hx1
          have HR1 := Lib.hid hr1
          have HU1 := Lib.hid hu1
          have HSO2 : Hid (Sl .u8 v4 (some ⟨tg, 0, none⟩) tn tc to) := HSOb.out.below (grown_below7 hJ) (Nat.le_refl _)
          clear hg1 hx1 hr1 hu1 hJ HSO1 HSOb HLL1 HLW1 HRD1 HLE1 HB3 t0 t1 t2 t3 t4 t5 t6 t7 t8 t9 t10 t11 t12 t13 t14
          go_wp2_with fail
          refine wp_region_told2 HMX.out 15 [(116, 116), (117, 117), (118, 118), (119, 119), (120, 120), (121, 121), (122, 122), (123, 123), (124, 124), (125, 125), (126, 126), (115, 115), (127, 127), (128, 128), (19, 19), (19, 19), (20, 20)]
            (fun (j : Nat) (v u : Value) (w0 : World) => match j with
              | 0 => v = .string (strOfNums [75, 69, 89, 32])
              | 1 => v = .slice (some ⟨tg, 0, none⟩) tn tc
              | 2 => v = .string (strOfNums to)
              | 3 => v = .string (strOfNums ([75, 69, 89, 32] ++ to))
              | 4 => v = .string (strOfNums (([75, 69, 89, 32] ++ to) ++ [32]))
              | 5 => v = .int .u64 (c : Int)
              | 6 => Str7 w0 dg v
              | 7 => v = .string (strOfNums dg)
              | 8 => v = .string (strOfNums LN2)
              | 9 => Str7 w0 LN2 v
              | 10 => Told7 w0 E2 RL2 v
              | 11 => Told7 w0 E2 RL2 v
              | 12 => Agg7 w0 RL2 v
              | 13 => v = .int .i64 E2
              | 14 => Box7 w0 v4.heap.size v
              | 15 => Full7 w0 v4.heap.size RL2 v
              | 16 => v = .int .i64 E2
              | _ => True)
            (fun W => (v4).drew.grownBy W none) (fun _ w0 w' => Turn7 v4.heap.size w0 w') (by kernel_rfl) (by kernel_rfl) (World.grownBy.refl _ _) (fun _ _ h1 h2 => h1.trans h2) (fun _ _ _ h1 h2 => fresh_turn h1 h2) ?_ ?_ ?_ ?_
          · intro j v u w0 w' h hg
            match j, h with
            | 0, h => exact h
            | 1, h => exact h
            | 2, h => exact h
            | 3, h => exact h
            | 4, h => exact h
            | 5, h => exact h
            | 6, h => exact h.kept hg
            | 7, h => exact h
            | 8, h => exact h
            | 9, h => exact h.kept hg
            | 10, h => exact h.kept hg
            | 11, h => exact h.kept hg
            | 12, h => exact h.kept hg
            | 13, h => exact h
            | 14, h => exact h.kept hg
            | 15, h => exact h.kept hg
            | 16, h => exact h
            | j + 17, h => exact h
          · intro j v u a0 w0 w' hne h hr
            match j, hne, h with
            | 0, hne, h => exact h
            | 1, hne, h => exact h
            | 2, hne, h => exact h
            | 3, hne, h => exact h
            | 4, hne, h => exact h
            | 5, hne, h => exact h
            | 6, hne, h => exact h.turned hr
            | 7, hne, h => exact h
            | 8, hne, h => exact h
            | 9, hne, h => exact h.turned hr
            | 10, hne, h => exact h.turned hr
            | 11, hne, h => exact h.turned hr
            | 12, hne, h => exact h.turned hr
            | 13, hne, h => exact h
            | 14, hne, h => exact h.turned hr
            | 15, hne, h => exact absurd rfl hne
            | 16, hne, h => exact h
            | j + 17, _, h => exact h
          · intro i1 o ho a1 w1 hJ hw ht
            match i1, ho with
            | 0, ho =>
              obtain rfl := Option.some.inj ho
              exact StepsTo.move rfl (.tmp 16) (.inl rfl) ⟨(hw 16 (by kernel_rfl)), fun h => absurd h (by decide), fun _ => World.grownBy.refl _ _⟩
            | 1, ho =>
              obtain rfl := Option.some.inj ho
              exact StepsTo.move rfl (.tmp 14) (.inl rfl) ⟨(hw 14 (by kernel_rfl)), fun h => absurd h (by decide), fun _ => World.grownBy.refl _ _⟩
            | 2, ho =>
              obtain rfl := Option.some.inj ho
              exact StepsTo.of_run rfl (run_str rfl (show a1.eval (.tmp 117) = .slice (some ⟨tg, 0, none⟩) tn tc from (ht 1 (by kernel_rfl))) (HSO2.out.below (grown_below7 hJ) (Nat.le_refl _))) ⟨rfl, fun h => absurd h (by decide), fun _ => World.grownBy.refl _ _⟩
            | 3, ho =>
              obtain rfl := Option.some.inj ho
              exact StepsTo.of_run rfl (run_addS rfl (show a1.eval (.tmp 116) = .string (strOfNums [75, 69, 89, 32]) from (ht 0 (by kernel_rfl))) (show a1.eval (.tmp 118) = .string (strOfNums to) from (ht 2 (by kernel_rfl))) (by simp only [str_size]; have := HSL2.out; have := HDL.out; simp only [List.length_cons, List.length_nil]; omega)) ⟨congrArg Value.string (str_app _ _), fun h => absurd h (by decide), fun _ => World.grownBy.refl _ _⟩
            | 4, ho =>
              obtain rfl := Option.some.inj ho
              exact StepsTo.of_run rfl (run_addS rfl (show a1.eval (.tmp 119) = .string (strOfNums ([75, 69, 89, 32] ++ to)) from (ht 3 (by kernel_rfl))) (show a1.eval (.const (.string ⟨#[32]⟩)) = .string (strOfNums [32]) from rfl) (by simp only [str_size]; have := HSL2.out; have := HDL.out; simp only [List.length_append, List.length_cons, List.length_nil]; omega)) ⟨congrArg Value.string (str_app _ _), fun h => absurd h (by decide), fun _ => World.grownBy.refl _ _⟩
            | 5, ho =>
              obtain rfl := Option.some.inj ho
              exact StepsTo.move rfl (.tmp 1) (.inl rfl) ⟨(hw 1 (by kernel_rfl)), fun h => absurd h (by decide), fun _ => World.grownBy.refl _ _⟩
            | 6, ho =>
              obtain rfl := Option.some.inj ho
              refine StepsTo.enter rfl _ _ (run_numWrite rfl (show a1.eval (.tmp 121) = .int .u64 (c : Int) from (ht 5 (by kernel_rfl)))) (write_any c HC64.out w1) (fun e w' h => ?_)
              obtain ⟨a', n', c', rfl, hn, hs, hnil, hb⟩ := h
              rw [HDG.out] at hn hs
              subst hn
              exact ⟨_, rfl, ⟨a', c', rfl, Sl.of_owns (k := .u8) hs HDW.out rfl, hnil⟩, fun h => absurd h (by decide), fun _ => below_grew7 hb⟩
            | 7, ho =>
              obtain rfl := Option.some.inj ho
              obtain ⟨p, d, h1, h2, _⟩ := ht 6 (by kernel_rfl)
              exact StepsTo.of_run rfl (run_str rfl (show a1.eval (.tmp 122) = .slice p dg.length d from h1) h2) ⟨rfl, fun h => absurd h (by decide), fun _ => World.grownBy.refl _ _⟩
            | 8, ho =>
              obtain rfl := Option.some.inj ho
              exact StepsTo.of_run rfl (run_addS rfl (show a1.eval (.tmp 120) = .string (strOfNums (([75, 69, 89, 32] ++ to) ++ [32])) from (ht 4 (by kernel_rfl))) (show a1.eval (.tmp 123) = .string (strOfNums dg) from (ht 7 (by kernel_rfl))) (by simp only [str_size]; have := HSL2.out; have := HDL.out; simp only [List.length_append, List.length_cons, List.length_nil]; omega)) ⟨congrArg Value.string ((str_app _ _).trans (congrArg strOfNums HLE2.out)), fun h => absurd h (by decide), fun _ => World.grownBy.refl _ _⟩
            | 9, ho =>
              obtain rfl := Option.some.inj ho
              exact steps_conv_back HLW2.out (by have := HLL2.out; omega) rfl rfl (show a1.eval (.tmp 124) = .string (strOfNums LN2) from (ht 8 (by kernel_rfl))) (fun d w' hs hg => ⟨⟨_, d, rfl, hs, fun e => by cases e⟩, fun h => absurd h (by decide), fun _ => hg⟩)
            | 10, ho =>
              obtain rfl := Option.some.inj ho
              obtain ⟨p, d, h1, h2, h3⟩ := ht 9 (by kernel_rfl)
              refine StepsTo.enter rfl _ _ (run_read7 rfl (show a1.eval (.tmp 125) = .slice p LN2.length d from h1)) (read7_is p LN2.length d LN2 ⟨E2, BS2, RL2⟩ w1 h2 h3 HLL2.out HRD2.out) (fun e w' h => ?_)
              obtain ⟨ba, bn, bc, ra, rn, rc, ys, rfl, _, _, hrs, hru, _, hb⟩ := h
              exact ⟨_, rfl, ⟨ba, bn, bc, ra, rn, rc, ys, rfl, hrs, hru⟩, fun h => absurd h (by decide), fun _ => below_grew7 hb⟩
            | 11, ho =>
              obtain rfl := Option.some.inj ho
              exact StepsTo.move rfl (.tmp 126) (.inl rfl) ⟨(ht 10 (by kernel_rfl)), fun h => absurd h (by decide), fun _ => World.grownBy.refl _ _⟩
            | 12, ho =>
              obtain rfl := Option.some.inj ho
              obtain ⟨ba, bn, bc, ra, rn, rc, ys, h1, hrs, hru⟩ := ht 11 (by kernel_rfl)
              exact StepsTo.of_run rfl (run_extract0 rfl (show a1.eval (.tmp 115) = .tuple #[.agg #[.slice ba bn bc, .slice ra rn rc], .int .i64 E2] from h1)) ⟨⟨ba, bn, bc, ra, rn, rc, ys, rfl, hrs, hru⟩, fun h => absurd h (by decide), fun _ => World.grownBy.refl _ _⟩
            | 13, ho =>
              obtain rfl := Option.some.inj ho
              obtain ⟨ba, bn, bc, ra, rn, rc, ys, h1, hrs, hru⟩ := ht 11 (by kernel_rfl)
              exact StepsTo.of_run rfl (run_extract1 rfl (show a1.eval (.tmp 115) = .tuple #[.agg #[.slice ba bn bc, .slice ra rn rc], .int .i64 E2] from h1)) ⟨rfl, fun h => absurd h (by decide), fun _ => World.grownBy.refl _ _⟩
            | 14, ho =>
              obtain rfl := Option.some.inj ho
              exact StepsTo.of_run (v := .pointer (some ⟨w1.heap.size, 0, none⟩)) (w' := w1.alloc (.cells #[.slice none 0 0, .slice none 0 0] 32)) rfl (by simp only [execOp]; go_simp) ⟨⟨_, _, _, _, _, _, _, rfl, hJ.size, heap_alloc_new _ _⟩, fun h => absurd h (by decide), fun _ => World.grownBy_alloc _ _ _⟩
            | 15, ho =>
              obtain rfl := Option.some.inj ho
              obtain ⟨g, x, n, d, y, m, q, h1, h2, h3⟩ := ht 14 (by kernel_rfl)
              obtain ⟨ba, bn, bc, ra, rn, rc, ys, h4, hrs, hru⟩ := ht 12 (by kernel_rfl)
              have h1' : a1.eval (.tmp 19) = .pointer (some ⟨g, 0, none⟩) := h1
              have h4' : a1.eval (.tmp 127) = .agg #[.slice ba bn bc, .slice ra rn rc] := h4
              refine steps_store_g rfl 32 (.tmp 19) (.tmp 127) rfl h1' h4' h3 HI.out rfl (spec_cells _ _ _ _ _ _) ?_
              intro w' hw' hg' hsz'
              exact ⟨⟨g, ba, bn, bc, ra, rn, rc, ys, h1', h2, hw', hrs.box h3 hg', hru⟩, fun _ => ⟨g, _, _, _, _, _, _, _, _, _, _, _, _, h2, h3, hg', hw'⟩, fun h => absurd rfl h⟩
            | 16, ho =>
              obtain rfl := Option.some.inj ho
              exact StepsTo.move rfl (.tmp 128) (.inr rfl) ⟨(ht 13 (by kernel_rfl)), fun h => absurd h (by decide), fun _ => World.grownBy.refl _ _⟩
            | j1 + 17, ho => exact absurd (Array.getElem?_eq_some_iff.1 ho).1 (by simp)
          intro tm v5 hsz hJ hfr hto
          rw [act_lit2 tm (show tm.size = 219 from hsz)]
          simp only [List.range, List.range.loop, List.map_cons, List.map_nil]
          rw [hfr 0 (by kernel_rfl), hfr 1 (by kernel_rfl), hfr 2 (by kernel_rfl), hfr 3 (by kernel_rfl), hfr 4 (by kernel_rfl), hfr 5 (by kernel_rfl), hfr 6 (by kernel_rfl), hfr 7 (by kernel_rfl), hfr 8 (by kernel_rfl), hfr 9 (by kernel_rfl), hfr 10 (by kernel_rfl), hfr 11 (by kernel_rfl), hfr 12 (by kernel_rfl), hfr 13 (by kernel_rfl), hfr 14 (by kernel_rfl), hfr 15 (by kernel_rfl), hfr 16 (by kernel_rfl), hfr 17 (by kernel_rfl), hfr 18 (by kernel_rfl), hfr 21 (by kernel_rfl), hfr 22 (by kernel_rfl), hfr 23 (by kernel_rfl), hfr 24 (by kernel_rfl), hfr 25 (by kernel_rfl), hfr 26 (by kernel_rfl), hfr 27 (by kernel_rfl), hfr 28 (by kernel_rfl), hfr 29 (by kernel_rfl), hfr 30 (by kernel_rfl), hfr 31 (by kernel_rfl), hfr 32 (by kernel_rfl), hfr 33 (by kernel_rfl), hfr 34 (by kernel_rfl), hfr 35 (by kernel_rfl), hfr 36 (by kernel_rfl), hfr 37 (by kernel_rfl), hfr 38 (by kernel_rfl), hfr 39 (by kernel_rfl), hfr 40 (by kernel_rfl), hfr 41 (by kernel_rfl), hfr 42 (by kernel_rfl), hfr 43 (by kernel_rfl), hfr 44 (by kernel_rfl), hfr 45 (by kernel_rfl), hfr 46 (by kernel_rfl), hfr 47 (by kernel_rfl), hfr 48 (by kernel_rfl), hfr 49 (by kernel_rfl), hfr 50 (by kernel_rfl), hfr 51 (by kernel_rfl), hfr 52 (by kernel_rfl), hfr 53 (by kernel_rfl), hfr 54 (by kernel_rfl), hfr 55 (by kernel_rfl), hfr 56 (by kernel_rfl), hfr 57 (by kernel_rfl), hfr 58 (by kernel_rfl), hfr 59 (by kernel_rfl), hfr 60 (by kernel_rfl), hfr 61 (by kernel_rfl), hfr 62 (by kernel_rfl), hfr 63 (by kernel_rfl), hfr 64 (by kernel_rfl), hfr 65 (by kernel_rfl), hfr 66 (by kernel_rfl), hfr 67 (by kernel_rfl), hfr 68 (by kernel_rfl), hfr 69 (by kernel_rfl), hfr 70 (by kernel_rfl), hfr 71 (by kernel_rfl), hfr 72 (by kernel_rfl), hfr 73 (by kernel_rfl), hfr 74 (by kernel_rfl), hfr 75 (by kernel_rfl), hfr 76 (by kernel_rfl), hfr 77 (by kernel_rfl), hfr 78 (by kernel_rfl), hfr 79 (by kernel_rfl), hfr 80 (by kernel_rfl), hfr 81 (by kernel_rfl), hfr 82 (by kernel_rfl), hfr 83 (by kernel_rfl), hfr 84 (by kernel_rfl), hfr 85 (by kernel_rfl), hfr 86 (by kernel_rfl), hfr 87 (by kernel_rfl), hfr 88 (by kernel_rfl), hfr 89 (by kernel_rfl), hfr 90 (by kernel_rfl), hfr 91 (by kernel_rfl), hfr 92 (by kernel_rfl), hfr 93 (by kernel_rfl), hfr 94 (by kernel_rfl), hfr 95 (by kernel_rfl), hfr 96 (by kernel_rfl), hfr 97 (by kernel_rfl), hfr 98 (by kernel_rfl), hfr 99 (by kernel_rfl), hfr 100 (by kernel_rfl), hfr 101 (by kernel_rfl), hfr 102 (by kernel_rfl), hfr 103 (by kernel_rfl), hfr 104 (by kernel_rfl), hfr 105 (by kernel_rfl), hfr 106 (by kernel_rfl), hfr 107 (by kernel_rfl), hfr 108 (by kernel_rfl), hfr 109 (by kernel_rfl), hfr 110 (by kernel_rfl), hfr 111 (by kernel_rfl), hfr 112 (by kernel_rfl), hfr 113 (by kernel_rfl), hfr 114 (by kernel_rfl), hfr 129 (by kernel_rfl), hfr 130 (by kernel_rfl), hfr 131 (by kernel_rfl), hfr 132 (by kernel_rfl), hfr 133 (by kernel_rfl), hfr 134 (by kernel_rfl), hfr 135 (by kernel_rfl), hfr 136 (by kernel_rfl), hfr 137 (by kernel_rfl), hfr 138 (by kernel_rfl), hfr 139 (by kernel_rfl), hfr 140 (by kernel_rfl), hfr 141 (by kernel_rfl), hfr 142 (by kernel_rfl), hfr 143 (by kernel_rfl), hfr 144 (by kernel_rfl), hfr 145 (by kernel_rfl), hfr 146 (by kernel_rfl), hfr 147 (by kernel_rfl), hfr 148 (by kernel_rfl), hfr 149 (by kernel_rfl), hfr 150 (by kernel_rfl), hfr 151 (by kernel_rfl), hfr 152 (by kernel_rfl), hfr 153 (by kernel_rfl), hfr 154 (by kernel_rfl), hfr 155 (by kernel_rfl), hfr 156 (by kernel_rfl), hfr 157 (by kernel_rfl), hfr 158 (by kernel_rfl), hfr 159 (by kernel_rfl), hfr 160 (by kernel_rfl), hfr 161 (by kernel_rfl), hfr 162 (by kernel_rfl), hfr 163 (by kernel_rfl), hfr 164 (by kernel_rfl), hfr 165 (by kernel_rfl), hfr 166 (by kernel_rfl), hfr 167 (by kernel_rfl), hfr 168 (by kernel_rfl), hfr 169 (by kernel_rfl), hfr 170 (by kernel_rfl), hfr 171 (by kernel_rfl), hfr 172 (by kernel_rfl), hfr 173 (by kernel_rfl), hfr 174 (by kernel_rfl), hfr 175 (by kernel_rfl), hfr 176 (by kernel_rfl), hfr 177 (by kernel_rfl), hfr 178 (by kernel_rfl), hfr 179 (by kernel_rfl), hfr 180 (by kernel_rfl), hfr 181 (by kernel_rfl), hfr 182 (by kernel_rfl), hfr 183 (by kernel_rfl), hfr 184 (by kernel_rfl), hfr 185 (by kernel_rfl), hfr 186 (by kernel_rfl), hfr 187 (by kernel_rfl), hfr 188 (by kernel_rfl), hfr 189 (by kernel_rfl), hfr 190 (by kernel_rfl), hfr 191 (by kernel_rfl), hfr 192 (by kernel_rfl), hfr 193 (by kernel_rfl), hfr 194 (by kernel_rfl), hfr 195 (by kernel_rfl), hfr 196 (by kernel_rfl), hfr 197 (by kernel_rfl), hfr 198 (by kernel_rfl), hfr 199 (by kernel_rfl), hfr 200 (by kernel_rfl), hfr 201 (by kernel_rfl), hfr 202 (by kernel_rfl), hfr 203 (by kernel_rfl), hfr 204 (by kernel_rfl), hfr 205 (by kernel_rfl), hfr 206 (by kernel_rfl), hfr 207 (by kernel_rfl), hfr 208 (by kernel_rfl), hfr 209 (by kernel_rfl), hfr 210 (by kernel_rfl), hfr 211 (by kernel_rfl), hfr 212 (by kernel_rfl), hfr 213 (by kernel_rfl), hfr 214 (by kernel_rfl), hfr 215 (by kernel_rfl), hfr 216 (by kernel_rfl), hfr 217 (by kernel_rfl), hfr 218 (by kernel_rfl)]
          simp only [Array.getD_eq_getD_getElem?, List.getElem?_toArray, List.getElem?_cons_succ, List.getElem?_cons_zero, Option.getD_some]
          have t0 : (tm[116]?.getD undef) = .string (strOfNums [75, 69, 89, 32]) := by have h := hto 0 (by decide); simp only [Array.getD_eq_getD_getElem?] at h; exact h
          have t1 : (tm[117]?.getD undef) = .slice (some ⟨tg, 0, none⟩) tn tc := by have h := hto 1 (by decide); simp only [Array.getD_eq_getD_getElem?] at h; exact h
          have t2 : (tm[118]?.getD undef) = .string (strOfNums to) := by have h := hto 2 (by decide); simp only [Array.getD_eq_getD_getElem?] at h; exact h
          have t3 : (tm[119]?.getD undef) = .string (strOfNums ([75, 69, 89, 32] ++ to)) := by have h := hto 3 (by decide); simp only [Array.getD_eq_getD_getElem?] at h; exact h
          have t4 : (tm[120]?.getD undef) = .string (strOfNums (([75, 69, 89, 32] ++ to) ++ [32])) := by have h := hto 4 (by decide); simp only [Array.getD_eq_getD_getElem?] at h; exact h
          have t5 : (tm[121]?.getD undef) = .int .u64 (c : Int) := by have h := hto 5 (by decide); simp only [Array.getD_eq_getD_getElem?] at h; exact h
          have t6 : Str7 v5 dg (tm[122]?.getD undef) := by have h := hto 6 (by decide); simp only [Array.getD_eq_getD_getElem?] at h; exact h
          have t7 : (tm[123]?.getD undef) = .string (strOfNums dg) := by have h := hto 7 (by decide); simp only [Array.getD_eq_getD_getElem?] at h; exact h
          have t8 : (tm[124]?.getD undef) = .string (strOfNums LN2) := by have h := hto 8 (by decide); simp only [Array.getD_eq_getD_getElem?] at h; exact h
          have t9 : Str7 v5 LN2 (tm[125]?.getD undef) := by have h := hto 9 (by decide); simp only [Array.getD_eq_getD_getElem?] at h; exact h
          have t10 : Told7 v5 E2 RL2 (tm[126]?.getD undef) := by have h := hto 10 (by decide); simp only [Array.getD_eq_getD_getElem?] at h; exact h
          have t11 : Told7 v5 E2 RL2 (tm[115]?.getD undef) := by have h := hto 11 (by decide); simp only [Array.getD_eq_getD_getElem?] at h; exact h
          have t12 : Agg7 v5 RL2 (tm[127]?.getD undef) := by have h := hto 12 (by decide); simp only [Array.getD_eq_getD_getElem?] at h; exact h
          have t13 : (tm[128]?.getD undef) = .int .i64 E2 := by have h := hto 13 (by decide); simp only [Array.getD_eq_getD_getElem?] at h; exact h
          have t14 : Box7 v5 v4.heap.size (tm[19]?.getD undef) := by have h := hto 14 (by decide); simp only [Array.getD_eq_getD_getElem?] at h; exact h
          have t15 : Full7 v5 v4.heap.size RL2 (tm[19]?.getD undef) := by have h := hto 15 (by decide); simp only [Array.getD_eq_getD_getElem?] at h; exact h
          have t16 : (tm[20]?.getD undef) = .int .i64 E2 := by have h := hto 16 (by decide); simp only [Array.getD_eq_getD_getElem?] at h; exact h
          clear hto
          generalize tm[19]?.getD undef = y19 at *
          generalize tm[20]?.getD undef = y20 at *
          generalize tm[115]?.getD undef = y115 at *
          generalize tm[116]?.getD undef = y116 at *
          generalize tm[117]?.getD undef = y117 at *
          generalize tm[118]?.getD undef = y118 at *
          generalize tm[119]?.getD undef = y119 at *
          generalize tm[120]?.getD undef = y120 at *
          generalize tm[121]?.getD undef = y121 at *
          generalize tm[122]?.getD undef = y122 at *
          generalize tm[123]?.getD undef = y123 at *
          generalize tm[124]?.getD undef = y124 at *
          generalize tm[125]?.getD undef = y125 at *
          generalize tm[126]?.getD undef = y126 at *
          generalize tm[127]?.getD undef = y127 at *
          generalize tm[128]?.getD undef = y128 at *
          clear hfr hsz tm
          obtain rfl := t16
          obtain ⟨g2, ba2, bn2, bc2, ra2, rn2, rc2, ys2, rfl, hg2, hx2, hr2, hu2⟩ := t15
          have hb5 := grown_below7 hJ
          have HB5 : Hid (Below w.heap.size w v5) := HB4.out.trans (hb5.mono HB4.out.size)
          have HX1' := Lib.hid ((hb5.block _ (Array.getElem?_eq_some_iff.1 HX1.out).1).trans HX1.out)
          have HR1' := Lib.hid (HR1.out.below hb5 (Nat.le_refl _))
          have HX2 := Lib.hid hx2
          have HR2 := Lib.hid hr2
          have HU2 := Lib.hid hu2
          have HN1 : Hid (rn1 = RL1.length) := rs_len HR1.out HU1.out
          have HN2 : Hid (rn2 = RL2.length) := rs_len hr2 hu2
          have hc1 : v5.cell? ⟨g1, 1, none⟩ = some (.slice ra1 rn1 rc1) := by simp [World.cell?, HX1'.out]
          clear hg2 hx2 hr2 hu2 hJ hb5 HSO2 HLL2 HLW2 HRD2 HLE2 HX1 HR1 t0 t1 t2 t3 t4 t5 t6 t7 t8 t9 t10 t11 t12 t13 t14
          have h1 := HSP1.out
          have h2 := HSP2.out
          simp only [Spec.Sp.mk.injEq] at h1 h2
          obtain ⟨rfl, rfl, rfl⟩ := h1
          obtain ⟨rfl, rfl, rfl⟩ := h2
          have HM1 : Hid (rn1 ≤ 300) := by
            show rn1 ≤ 300
            rw [HN1.out]
            have := Spec.row_few (c := (c : Int)) (l := xs) (row := 0) (p := 0); have := HXL.out; omega
          have HM2 : Hid (rn2 ≤ 300) := by
            show rn2 ≤ 300
            rw [HN2.out]
            have := Spec.row_few (c := (c : Int)) (l := ts) (row := 0) (p := 0); have := HTL.out; omega
          obtain ⟨NL, hNL⟩ : ∃ NL, nrm (ruls ys1) = NL := ⟨_, rfl⟩
          have HNB : Hid (∀ r ∈ NL, ∃ a b, r = (⟨[a], [b], (c : Int)⟩ : Rul) ∧ (⟨[b], [a], (c : Int)⟩ : Rul) ∈ NL) := by
            show ∀ r ∈ NL, ∃ a b, r = (⟨[a], [b], (c : Int)⟩ : Rul) ∧ (⟨[b], [a], (c : Int)⟩ : Rul) ∈ NL
            rw [← hNL, HU1.out]
            exact Spec.both_nrm (Spec.both_row HFA.out HG.out (by have := HCM.out; omega))
          have HNL := Lib.hid hNL
          clear hNL HSP1 HSP2 HN1 HN2
          go_wp2_with fail
          refine (norm_any _ _ _ ys1 _ HR1'.out HM1.out).mono ?_
          rintro e v6 ⟨na, nn, nc, outs, rfl, hro, huo, _, _, hb6⟩
          have HUO : Hid (ruls outs = NL) := huo.trans HNL.out
          have HNN : Hid (NL.length = nn) := (rs_len hro (huo.trans HNL.out)).symm
          have hncm := hro.2.2.1
          unfold maxLen at hncm
          have hnnc := hro.2.1
          have HK0 : Hid (Below w.heap.size w v6 ∧ v6.heap[g2]? = some (.cells #[.slice ba2 bn2 bc2, .slice ra2 rn2 rc2] 32 (0, 0)) ∧ Rs v6 na nn nc outs ∧ Rs v6 ra2 rn2 rc2 ys2) :=
            ⟨HB5.out.trans (hb6.mono HB5.out.size), (hb6.block _ (Array.getElem?_eq_some_iff.1 HX2.out).1).trans HX2.out, hro, HR2.out.below hb6 (Nat.le_refl _)⟩
          clear hro huo hb6 hc1 HX2 HR2 HX1' HR1' HB5
          go_wp2
          go_loopw [22] (fun jx wr => ∃ jr : Nat, jr ≤ nn ∧ jx = .int .i64 (jr : Int) ∧ Hid (Below w.heap.size w wr ∧ wr.heap[g2]? = some (.cells #[.slice ba2 bn2 bc2, .slice ra2 rn2 rc2] 32 (0, 0)) ∧ Rs wr na nn nc outs ∧ Rs wr ra2 rn2 rc2 ys2)) (fun jx _ => nn - (intOf jx).toNat)
          case atStart => exact ⟨0, Nat.zero_le _, rfl, HK0.out⟩
          case round =>
            obtain ⟨jr, hj, rfl, HK⟩ := hrel
            by_cases hjl : jr < nn
            · have hjli : (jr : Int) < (nn : Int) := by omega
              obtain ⟨b1, o1, la, ln, lc, LL, ra, rn, rc, RR, C2, hna, hb1, hx1, hx2, hx3, hsl, hsr, hC0, hC1, hz1⟩ := HK.out.2.2.1.one jr hjl
              subst hna
              obtain ⟨x, y, hxy, htw⟩ := HNB.out ⟨LL, RR, C2⟩ (by
                have h := ruls_in (xs := outs) (i := jr) (by rw [HK.out.2.2.1.1]; exact hjl)
                rw [hz1, HUO.out] at h
                exact h)
              obtain ⟨rfl, rfl, rfl⟩ : LL = [x] ∧ RR = [y] ∧ C2 = (c : Int) := ⟨congrArg Rul.L hxy, congrArg Rul.R hxy, congrArg Rul.C hxy⟩
              obtain rfl : ln = 1 := hsl.1.symm
              obtain rfl : rn = 1 := hsr.1.symm
              have HTW := Lib.hid htw
              have HCA := Lib.hid hx1
              have HCB := Lib.hid hx2
              have HCC := Lib.hid hx3
              have HSXa := Lib.hid hsl
              have HSYa := Lib.hid hsr
              have HBL := Lib.hid hb1
              clear hxy htw hx1 hx2 hx3 hsl hsr hb1 hz1 hC0 hC1 HK0
              generalize wr = wo at *
              go_wp2
              go_loopw [23, 24] (fun hv qx wi => ∃ (q : Nat) (h : Bool), q ≤ nn ∧ qx = .int .i64 (q : Int) ∧ hv = .bool h ∧ Hid (Spec.hasT NL x y q = h) ∧ Hid (Below w.heap.size w wi ∧ wi.heap[g2]? = some (.cells #[.slice ba2 bn2 bc2, .slice ra2 rn2 rc2] 32 (0, 0)) ∧ Rs wi (some ⟨b1, o1, none⟩) nn nc outs ∧ Rs wi ra2 rn2 rc2 ys2) ∧ Hid (Below wo.heap.size wo wi)) (fun _ qx _ => nn - (intOf qx).toNat)
              case atStart => exact ⟨0, false, Nat.zero_le _, rfl, rfl, (by first | trivial | rfl | simp [Spec.hasT]), HK.out, Below.refl _ _⟩
              case round =>
                obtain ⟨q, h, hq, rfl, rfl, HH, HKI, HBI⟩ := hrel
                have HA1 := Lib.hid ((HBI.out.cell (p := ⟨b1, o1 + jr * 3, none⟩) HBL.out).trans HCA.out)
                have HA2 := Lib.hid ((HBI.out.cell (p := ⟨b1, o1 + jr * 3 + 1, none⟩) HBL.out).trans HCB.out)
                have HA3 := Lib.hid ((HBI.out.cell (p := ⟨b1, o1 + jr * 3 + 2, none⟩) HBL.out).trans HCC.out)
                have HBW : Hid (b1 < wr.heap.size) := Nat.lt_of_lt_of_le HBL.out HBI.out.size
                by_cases hql : q < nn
                · have hqli : (q : Int) < (nn : Int) := by omega
                  obtain ⟨b2, o2, ka, kn, kc, KL, ja, jn, jc, JR, C3, hna2, hb2, hy1, hy2, hy3, hsl2, hsr2, _, _, hz2⟩ := HKI.out.2.2.1.one q hql
                  simp only [Option.some.injEq, Addr.mk.injEq, and_true] at hna2
                  obtain ⟨rfl, rfl⟩ := hna2
                  have HNX : Hid (Spec.hasT NL x y (q + 1) = (h || decide (KL = [y] ∧ JR = [x]))) := by
                    show Spec.hasT NL x y (q + 1) = _
                    rw [Spec.hasT_next (s := ⟨KL, JR, C3⟩) (by rw [HNN.out]; exact hql) (by rw [← HUO.out, ruls_at, hz2]; rfl), HH.out]
                  have HSX := Lib.hid (HSXa.out.below HBI.out (Nat.le_refl _))
                  have HSY := Lib.hid (HSYa.out.below HBI.out (Nat.le_refl _))
                  have HSK := Lib.hid hsl2
                  have HSJ := Lib.hid hsr2
                  have HQ1 := Lib.hid hy1
                  have HQ2 := Lib.hid hy2
                  clear hb2 hy1 hy2 hy3 hsl2 hsr2 hz2
                  cases h
                  · obtain ⟨s1, hs1⟩ : ∃ b, decide ([x] = JR) = b := ⟨_, rfl⟩
                    cases s1
                    · have HS1 := Lib.hid hs1
                      have HRES : Hid (Spec.hasT NL x y (q + 1) = false) := by
                        show Spec.hasT NL x y (q + 1) = false
                        rw [HNX.out, Bool.false_or, decide_eq_false]
                        rintro ⟨_, e⟩
                        rw [e] at hs1
                        simp at hs1
                      clear hs1
                      go_wp2_with fail
                      refine wp_region_told2 HMX.out 28 [(144, 144), (145, 145), (146, 146), (147, 147), (148, 148), (149, 149), (150, 150), (151, 151), (152, 152), (153, 153), (154, 154), (155, 155), (156, 156), (157, 157), (158, 158), (159, 159), (160, 160), (161, 161), (162, 162), (163, 163), (164, 164), (165, 165), (166, 166), (167, 167), (168, 168), (169, 169), (170, 170), (23, 23)]
                        (fun (j : Nat) (v u : Value) (w0 : World) => match j with
                          | 0 => v = .bool false
                          | 1 => v = .bool false
                          | 2 => v = .slice (some ⟨b1, o1, none⟩) nn nc
                          | 3 => v = .int .i64 (jr : Int)
                          | 4 => v = .pointer (some ⟨b1, o1 + jr * 3, none⟩)
                          | 5 => v = .pointer (some ⟨b1, o1 + jr * 3, none⟩)
                          | 6 => v = .slice la 1 lc
                          | 7 => v = .slice (some ⟨b1, o1, none⟩) nn nc
                          | 8 => v = .int .i64 (q : Int)
                          | 9 => v = .pointer (some ⟨b1, o1 + q * 3, none⟩)
                          | 10 => v = .pointer (some ⟨b1, o1 + q * 3 + 1, none⟩)
                          | 11 => v = .slice ja jn jc
                          | 12 => v = .bool false
                          | 13 => v = .bool false
                          | 14 => True
                          | 15 => True
                          | 16 => True
                          | 17 => True
                          | 18 => True
                          | 19 => True
                          | 20 => True
                          | 21 => True
                          | 22 => True
                          | 23 => True
                          | 24 => True
                          | 25 => v = .bool false
                          | 26 => v = .bool false
                          | 27 => v = .bool false
                          | _ => True)
                        (fun W => (wr).drew.grownBy W none) (fun _ _ _ => False) (by kernel_rfl) (by kernel_rfl) (World.grownBy.refl _ _) (fun _ _ h1 h2 => h1.trans h2) (fun _ _ _ _ h => h.elim) ?_ ?_ ?_ ?_
                      · intro j v u w0 w' h hg
                        match j, h with
                        | 0, h => exact h
                        | 1, h => exact h
                        | 2, h => exact h
                        | 3, h => exact h
                        | 4, h => exact h
                        | 5, h => exact h
                        | 6, h => exact h
                        | 7, h => exact h
                        | 8, h => exact h
                        | 9, h => exact h
                        | 10, h => exact h
                        | 11, h => exact h
                        | 12, h => exact h
                        | 13, h => exact h
                        | 14, h => trivial
                        | 15, h => trivial
                        | 16, h => trivial
                        | 17, h => trivial
                        | 18, h => trivial
                        | 19, h => trivial
                        | 20, h => trivial
                        | 21, h => trivial
                        | 22, h => trivial
                        | 23, h => trivial
                        | 24, h => trivial
                        | 25, h => exact h
                        | 26, h => exact h
                        | 27, h => exact h
                        | j + 28, h => exact h
                      · intro j v u a0 w0 w' hne h hr
                        match j, hne, h with
                        | 0, hne, h => exact h
                        | 1, hne, h => exact h
                        | 2, hne, h => exact h
                        | 3, hne, h => exact h
                        | 4, hne, h => exact h
                        | 5, hne, h => exact h
                        | 6, hne, h => exact h
                        | 7, hne, h => exact h
                        | 8, hne, h => exact h
                        | 9, hne, h => exact h
                        | 10, hne, h => exact h
                        | 11, hne, h => exact h
                        | 12, hne, h => exact h
                        | 13, hne, h => exact h
                        | 14, hne, h => trivial
                        | 15, hne, h => trivial
                        | 16, hne, h => trivial
                        | 17, hne, h => trivial
                        | 18, hne, h => trivial
                        | 19, hne, h => trivial
                        | 20, hne, h => trivial
                        | 21, hne, h => trivial
                        | 22, hne, h => trivial
                        | 23, hne, h => trivial
                        | 24, hne, h => trivial
                        | 25, hne, h => exact h
                        | 26, hne, h => exact h
                        | 27, hne, h => exact h
                        | j + 28, _, h => exact h
                      · intro i1 o ho a1 w1 hJ hw ht
                        match i1, ho with
                        | 0, ho =>
                          obtain rfl := Option.some.inj ho
                          exact StepsTo.move rfl (.tmp 23) (.inl rfl) ⟨(show a1.eval (.tmp 23) = .bool false from (hw 23 (by kernel_rfl))), fun h => absurd h (by decide), fun _ => World.grownBy.refl _ _⟩
                        | 1, ho =>
                          obtain rfl := Option.some.inj ho
                          exact StepsTo.move rfl (.tmp 144) (.inl rfl) ⟨(show a1.eval (.tmp 144) = .bool false from (ht 0 (by kernel_rfl))), fun h => absurd h (by decide), fun _ => World.grownBy.refl _ _⟩
                        | 2, ho =>
                          obtain rfl := Option.some.inj ho
                          refine StepsTo.guarded (wanted_of rfl rfl (show a1.eval (.tmp 145) = .bool false from (ht 1 (by kernel_rfl)))) ?_
                          exact StepsTo.move rfl (.tmp 21) (.inl rfl) ⟨(show a1.eval (.tmp 21) = .slice (some ⟨b1, o1, none⟩) nn nc from (hw 21 (by kernel_rfl))), fun h => absurd h (by decide), fun _ => World.grownBy.refl _ _⟩
                        | 3, ho =>
                          obtain rfl := Option.some.inj ho
                          refine StepsTo.guarded (wanted_of rfl rfl (show a1.eval (.tmp 145) = .bool false from (ht 1 (by kernel_rfl)))) ?_
                          exact StepsTo.move rfl (.tmp 22) (.inl rfl) ⟨(show a1.eval (.tmp 22) = .int .i64 (jr : Int) from (hw 22 (by kernel_rfl))), fun h => absurd h (by decide), fun _ => World.grownBy.refl _ _⟩
                        | 4, ho =>
                          obtain rfl := Option.some.inj ho
                          refine StepsTo.guarded (wanted_of rfl rfl (show a1.eval (.tmp 145) = .bool false from (ht 1 (by kernel_rfl)))) ?_
                          exact StepsTo.of_run rfl (run_idxR rfl (show a1.eval (.tmp 146) = (.slice (some ⟨b1, o1, none⟩) nn nc) from (ht 2 (by kernel_rfl))) (show a1.eval (.tmp 147) = .int .i64 (jr : Int) from (ht 3 (by kernel_rfl))) (by omega)) ⟨rfl, fun h => absurd h (by decide), fun _ => World.grownBy.refl _ _⟩
                        | 5, ho =>
                          obtain rfl := Option.some.inj ho
                          refine StepsTo.guarded (wanted_of rfl rfl (show a1.eval (.tmp 145) = .bool false from (ht 1 (by kernel_rfl)))) ?_
                          exact StepsTo.of_run rfl (run_faddrR 0 (by decide) rfl (show a1.eval (.tmp 148) = .pointer (some ⟨b1, o1 + jr * 3, none⟩) from (ht 4 (by kernel_rfl)))) ⟨rfl, fun h => absurd h (by decide), fun _ => World.grownBy.refl _ _⟩
                        | 6, ho =>
                          obtain rfl := Option.some.inj ho
                          refine StepsTo.guarded (wanted_of rfl rfl (show a1.eval (.tmp 145) = .bool false from (ht 1 (by kernel_rfl)))) ?_
                          exact steps_ldd (ldd_side la 1 lc) rfl (.tmp 149) rfl (ht 5 (by kernel_rfl)) (((grown_below7 hJ).cell (p := ⟨b1, o1 + jr * 3, none⟩) HBW.out).trans HA1.out) ⟨rfl, fun h => absurd h (by decide), fun _ => World.grownBy.refl _ _⟩
                        | 7, ho =>
                          obtain rfl := Option.some.inj ho
                          refine StepsTo.guarded (wanted_of rfl rfl (show a1.eval (.tmp 145) = .bool false from (ht 1 (by kernel_rfl)))) ?_
                          exact StepsTo.move rfl (.tmp 21) (.inl rfl) ⟨(show a1.eval (.tmp 21) = .slice (some ⟨b1, o1, none⟩) nn nc from (hw 21 (by kernel_rfl))), fun h => absurd h (by decide), fun _ => World.grownBy.refl _ _⟩
                        | 8, ho =>
                          obtain rfl := Option.some.inj ho
                          refine StepsTo.guarded (wanted_of rfl rfl (show a1.eval (.tmp 145) = .bool false from (ht 1 (by kernel_rfl)))) ?_
                          exact StepsTo.move rfl (.tmp 24) (.inl rfl) ⟨(show a1.eval (.tmp 24) = .int .i64 (q : Int) from (hw 24 (by kernel_rfl))), fun h => absurd h (by decide), fun _ => World.grownBy.refl _ _⟩
                        | 9, ho =>
                          obtain rfl := Option.some.inj ho
                          refine StepsTo.guarded (wanted_of rfl rfl (show a1.eval (.tmp 145) = .bool false from (ht 1 (by kernel_rfl)))) ?_
                          exact StepsTo.of_run rfl (run_idxR rfl (show a1.eval (.tmp 151) = (.slice (some ⟨b1, o1, none⟩) nn nc) from (ht 7 (by kernel_rfl))) (show a1.eval (.tmp 152) = .int .i64 (q : Int) from (ht 8 (by kernel_rfl))) (by omega)) ⟨rfl, fun h => absurd h (by decide), fun _ => World.grownBy.refl _ _⟩
                        | 10, ho =>
                          obtain rfl := Option.some.inj ho
                          refine StepsTo.guarded (wanted_of rfl rfl (show a1.eval (.tmp 145) = .bool false from (ht 1 (by kernel_rfl)))) ?_
                          exact StepsTo.of_run rfl (run_faddrR 1 (by decide) rfl (show a1.eval (.tmp 153) = .pointer (some ⟨b1, o1 + q * 3, none⟩) from (ht 9 (by kernel_rfl)))) ⟨rfl, fun h => absurd h (by decide), fun _ => World.grownBy.refl _ _⟩
                        | 11, ho =>
                          obtain rfl := Option.some.inj ho
                          refine StepsTo.guarded (wanted_of rfl rfl (show a1.eval (.tmp 145) = .bool false from (ht 1 (by kernel_rfl)))) ?_
                          exact steps_ldd (ldd_side ja jn jc) rfl (.tmp 154) rfl (ht 10 (by kernel_rfl)) (((grown_below7 hJ).cell (p := ⟨b1, o1 + q * 3 + 1, none⟩) HBW.out).trans HQ2.out) ⟨rfl, fun h => absurd h (by decide), fun _ => World.grownBy.refl _ _⟩
                        | 12, ho =>
                          obtain rfl := Option.some.inj ho
                          refine StepsTo.guarded (wanted_of rfl rfl (show a1.eval (.tmp 145) = .bool false from (ht 1 (by kernel_rfl)))) ?_
                          have e1 : a1.eval (.tmp 150) = .slice la 1 lc := (ht 6 (by kernel_rfl))
                          have e2 : a1.eval (.tmp 155) = .slice ja jn jc := (ht 11 (by kernel_rfl))
                          have hb := grown_below7 hJ
                          refine StepsTo.enter rfl _ _ (run_sameI rfl e1 e2) (same_is la ja 1 jn lc jc [x] JR false w1 (HSX.out.below hb (Nat.le_refl _)) (HSJ.out.below hb (Nat.le_refl _)) HS1.out) (fun e w' h => ?_)
                          exact ⟨_, h.1, rfl, fun h => absurd h (by decide), fun _ => below_grew7 (below_drawn (Below.refl _ _) h.2)⟩
                        | 13, ho =>
                          obtain rfl := Option.some.inj ho
                          refine StepsTo.guarded (wanted_of rfl rfl (show a1.eval (.tmp 145) = .bool false from (ht 1 (by kernel_rfl)))) ?_
                          exact StepsTo.move rfl (.tmp 156) (.inl rfl) ⟨(show a1.eval (.tmp 156) = .bool false from (ht 12 (by kernel_rfl))), fun h => absurd h (by decide), fun _ => World.grownBy.refl _ _⟩
                        | 14, ho =>
                          obtain rfl := Option.some.inj ho
                          exact StepsTo.passed (passed_of rfl rfl (show a1.eval (.tmp 157) = .bool false from (ht 13 (by kernel_rfl))) (by decide)) ⟨trivial, fun h => absurd h (by decide), fun _ => World.grownBy.refl _ _⟩
                        | 15, ho =>
                          obtain rfl := Option.some.inj ho
                          exact StepsTo.passed (passed_of rfl rfl (show a1.eval (.tmp 157) = .bool false from (ht 13 (by kernel_rfl))) (by decide)) ⟨trivial, fun h => absurd h (by decide), fun _ => World.grownBy.refl _ _⟩
                        | 16, ho =>
                          obtain rfl := Option.some.inj ho
                          exact StepsTo.passed (passed_of rfl rfl (show a1.eval (.tmp 157) = .bool false from (ht 13 (by kernel_rfl))) (by decide)) ⟨trivial, fun h => absurd h (by decide), fun _ => World.grownBy.refl _ _⟩
                        | 17, ho =>
                          obtain rfl := Option.some.inj ho
                          exact StepsTo.passed (passed_of rfl rfl (show a1.eval (.tmp 157) = .bool false from (ht 13 (by kernel_rfl))) (by decide)) ⟨trivial, fun h => absurd h (by decide), fun _ => World.grownBy.refl _ _⟩
                        | 18, ho =>
                          obtain rfl := Option.some.inj ho
                          exact StepsTo.passed (passed_of rfl rfl (show a1.eval (.tmp 157) = .bool false from (ht 13 (by kernel_rfl))) (by decide)) ⟨trivial, fun h => absurd h (by decide), fun _ => World.grownBy.refl _ _⟩
                        | 19, ho =>
                          obtain rfl := Option.some.inj ho
                          exact StepsTo.passed (passed_of rfl rfl (show a1.eval (.tmp 157) = .bool false from (ht 13 (by kernel_rfl))) (by decide)) ⟨trivial, fun h => absurd h (by decide), fun _ => World.grownBy.refl _ _⟩
                        | 20, ho =>
                          obtain rfl := Option.some.inj ho
                          exact StepsTo.passed (passed_of rfl rfl (show a1.eval (.tmp 157) = .bool false from (ht 13 (by kernel_rfl))) (by decide)) ⟨trivial, fun h => absurd h (by decide), fun _ => World.grownBy.refl _ _⟩
                        | 21, ho =>
                          obtain rfl := Option.some.inj ho
                          exact StepsTo.passed (passed_of rfl rfl (show a1.eval (.tmp 157) = .bool false from (ht 13 (by kernel_rfl))) (by decide)) ⟨trivial, fun h => absurd h (by decide), fun _ => World.grownBy.refl _ _⟩
                        | 22, ho =>
                          obtain rfl := Option.some.inj ho
                          exact StepsTo.passed (passed_of rfl rfl (show a1.eval (.tmp 157) = .bool false from (ht 13 (by kernel_rfl))) (by decide)) ⟨trivial, fun h => absurd h (by decide), fun _ => World.grownBy.refl _ _⟩
                        | 23, ho =>
                          obtain rfl := Option.some.inj ho
                          exact StepsTo.passed (passed_of rfl rfl (show a1.eval (.tmp 157) = .bool false from (ht 13 (by kernel_rfl))) (by decide)) ⟨trivial, fun h => absurd h (by decide), fun _ => World.grownBy.refl _ _⟩
                        | 24, ho =>
                          obtain rfl := Option.some.inj ho
                          exact StepsTo.passed (passed_of rfl rfl (show a1.eval (.tmp 157) = .bool false from (ht 13 (by kernel_rfl))) (by decide)) ⟨trivial, fun h => absurd h (by decide), fun _ => World.grownBy.refl _ _⟩
                        | 25, ho =>
                          obtain rfl := Option.some.inj ho
                          refine StepsTo.guarded (wanted_of rfl rfl (show a1.eval (.tmp 145) = .bool false from (ht 1 (by kernel_rfl)))) ?_
                          exact StepsTo.of_run rfl (run_pick rfl (show a1.eval (.tmp 157) = .bool false from (ht 13 (by kernel_rfl))) rfl rfl) ⟨rfl, fun h => absurd h (by decide), fun _ => World.grownBy.refl _ _⟩
                        | 26, ho =>
                          obtain rfl := Option.some.inj ho
                          exact StepsTo.of_run rfl (run_pick rfl (show a1.eval (.tmp 145) = .bool false from (ht 1 (by kernel_rfl))) rfl (show a1.eval (.tmp 169) = .bool false from (ht 25 (by kernel_rfl)))) ⟨rfl, fun h => absurd h (by decide), fun _ => World.grownBy.refl _ _⟩
                        | 27, ho =>
                          obtain rfl := Option.some.inj ho
                          exact StepsTo.move rfl (.tmp 170) (.inr rfl) ⟨(ht 26 (by kernel_rfl)), fun h => absurd h (by decide), fun _ => World.grownBy.refl _ _⟩
                        | j1 + 28, ho => exact absurd (Array.getElem?_eq_some_iff.1 ho).1 (by simp)
                      intro tm w9 hsz hJ hfr hto
                      rw [act_lit2 tm (show tm.size = 219 from hsz)]
                      simp only [List.range, List.range.loop, List.map_cons, List.map_nil]
                      rw [hfr 0 (by kernel_rfl), hfr 1 (by kernel_rfl), hfr 2 (by kernel_rfl), hfr 3 (by kernel_rfl), hfr 4 (by kernel_rfl), hfr 5 (by kernel_rfl), hfr 6 (by kernel_rfl), hfr 7 (by kernel_rfl), hfr 8 (by kernel_rfl), hfr 9 (by kernel_rfl), hfr 10 (by kernel_rfl), hfr 11 (by kernel_rfl), hfr 12 (by kernel_rfl), hfr 13 (by kernel_rfl), hfr 14 (by kernel_rfl), hfr 15 (by kernel_rfl), hfr 16 (by kernel_rfl), hfr 17 (by kernel_rfl), hfr 18 (by kernel_rfl), hfr 19 (by kernel_rfl), hfr 20 (by kernel_rfl), hfr 21 (by kernel_rfl), hfr 22 (by kernel_rfl), hfr 24 (by kernel_rfl), hfr 25 (by kernel_rfl), hfr 26 (by kernel_rfl), hfr 27 (by kernel_rfl), hfr 28 (by kernel_rfl), hfr 29 (by kernel_rfl), hfr 30 (by kernel_rfl), hfr 31 (by kernel_rfl), hfr 32 (by kernel_rfl), hfr 33 (by kernel_rfl), hfr 34 (by kernel_rfl), hfr 35 (by kernel_rfl), hfr 36 (by kernel_rfl), hfr 37 (by kernel_rfl), hfr 38 (by kernel_rfl), hfr 39 (by kernel_rfl), hfr 40 (by kernel_rfl), hfr 41 (by kernel_rfl), hfr 42 (by kernel_rfl), hfr 43 (by kernel_rfl), hfr 44 (by kernel_rfl), hfr 45 (by kernel_rfl), hfr 46 (by kernel_rfl), hfr 47 (by kernel_rfl), hfr 48 (by kernel_rfl), hfr 49 (by kernel_rfl), hfr 50 (by kernel_rfl), hfr 51 (by kernel_rfl), hfr 52 (by kernel_rfl), hfr 53 (by kernel_rfl), hfr 54 (by kernel_rfl), hfr 55 (by kernel_rfl), hfr 56 (by kernel_rfl), hfr 57 (by kernel_rfl), hfr 58 (by kernel_rfl), hfr 59 (by kernel_rfl), hfr 60 (by kernel_rfl), hfr 61 (by kernel_rfl), hfr 62 (by kernel_rfl), hfr 63 (by kernel_rfl), hfr 64 (by kernel_rfl), hfr 65 (by kernel_rfl), hfr 66 (by kernel_rfl), hfr 67 (by kernel_rfl), hfr 68 (by kernel_rfl), hfr 69 (by kernel_rfl), hfr 70 (by kernel_rfl), hfr 71 (by kernel_rfl), hfr 72 (by kernel_rfl), hfr 73 (by kernel_rfl), hfr 74 (by kernel_rfl), hfr 75 (by kernel_rfl), hfr 76 (by kernel_rfl), hfr 77 (by kernel_rfl), hfr 78 (by kernel_rfl), hfr 79 (by kernel_rfl), hfr 80 (by kernel_rfl), hfr 81 (by kernel_rfl), hfr 82 (by kernel_rfl), hfr 83 (by kernel_rfl), hfr 84 (by kernel_rfl), hfr 85 (by kernel_rfl), hfr 86 (by kernel_rfl), hfr 87 (by kernel_rfl), hfr 88 (by kernel_rfl), hfr 89 (by kernel_rfl), hfr 90 (by kernel_rfl), hfr 91 (by kernel_rfl), hfr 92 (by kernel_rfl), hfr 93 (by kernel_rfl), hfr 94 (by kernel_rfl), hfr 95 (by kernel_rfl), hfr 96 (by kernel_rfl), hfr 97 (by kernel_rfl), hfr 98 (by kernel_rfl), hfr 99 (by kernel_rfl), hfr 100 (by kernel_rfl), hfr 101 (by kernel_rfl), hfr 102 (by kernel_rfl), hfr 103 (by kernel_rfl), hfr 104 (by kernel_rfl), hfr 105 (by kernel_rfl), hfr 106 (by kernel_rfl), hfr 107 (by kernel_rfl), hfr 108 (by kernel_rfl), hfr 109 (by kernel_rfl), hfr 110 (by kernel_rfl), hfr 111 (by kernel_rfl), hfr 112 (by kernel_rfl), hfr 113 (by kernel_rfl), hfr 114 (by kernel_rfl), hfr 115 (by kernel_rfl), hfr 116 (by kernel_rfl), hfr 117 (by kernel_rfl), hfr 118 (by kernel_rfl), hfr 119 (by kernel_rfl), hfr 120 (by kernel_rfl), hfr 121 (by kernel_rfl), hfr 122 (by kernel_rfl), hfr 123 (by kernel_rfl), hfr 124 (by kernel_rfl), hfr 125 (by kernel_rfl), hfr 126 (by kernel_rfl), hfr 127 (by kernel_rfl), hfr 128 (by kernel_rfl), hfr 129 (by kernel_rfl), hfr 130 (by kernel_rfl), hfr 131 (by kernel_rfl), hfr 132 (by kernel_rfl), hfr 133 (by kernel_rfl), hfr 134 (by kernel_rfl), hfr 135 (by kernel_rfl), hfr 136 (by kernel_rfl), hfr 137 (by kernel_rfl), hfr 138 (by kernel_rfl), hfr 139 (by kernel_rfl), hfr 140 (by kernel_rfl), hfr 141 (by kernel_rfl), hfr 142 (by kernel_rfl), hfr 143 (by kernel_rfl), hfr 171 (by kernel_rfl), hfr 172 (by kernel_rfl), hfr 173 (by kernel_rfl), hfr 174 (by kernel_rfl), hfr 175 (by kernel_rfl), hfr 176 (by kernel_rfl), hfr 177 (by kernel_rfl), hfr 178 (by kernel_rfl), hfr 179 (by kernel_rfl), hfr 180 (by kernel_rfl), hfr 181 (by kernel_rfl), hfr 182 (by kernel_rfl), hfr 183 (by kernel_rfl), hfr 184 (by kernel_rfl), hfr 185 (by kernel_rfl), hfr 186 (by kernel_rfl), hfr 187 (by kernel_rfl), hfr 188 (by kernel_rfl), hfr 189 (by kernel_rfl), hfr 190 (by kernel_rfl), hfr 191 (by kernel_rfl), hfr 192 (by kernel_rfl), hfr 193 (by kernel_rfl), hfr 194 (by kernel_rfl), hfr 195 (by kernel_rfl), hfr 196 (by kernel_rfl), hfr 197 (by kernel_rfl), hfr 198 (by kernel_rfl), hfr 199 (by kernel_rfl), hfr 200 (by kernel_rfl), hfr 201 (by kernel_rfl), hfr 202 (by kernel_rfl), hfr 203 (by kernel_rfl), hfr 204 (by kernel_rfl), hfr 205 (by kernel_rfl), hfr 206 (by kernel_rfl), hfr 207 (by kernel_rfl), hfr 208 (by kernel_rfl), hfr 209 (by kernel_rfl), hfr 210 (by kernel_rfl), hfr 211 (by kernel_rfl), hfr 212 (by kernel_rfl), hfr 213 (by kernel_rfl), hfr 214 (by kernel_rfl), hfr 215 (by kernel_rfl), hfr 216 (by kernel_rfl), hfr 217 (by kernel_rfl), hfr 218 (by kernel_rfl)]
                      simp only [Array.getD_eq_getD_getElem?, List.getElem?_toArray, List.getElem?_cons_succ, List.getElem?_cons_zero, Option.getD_some]
                      have t0 : (tm[144]?.getD undef) = .bool false := by have h := hto 0 (by decide); simp only [Array.getD_eq_getD_getElem?] at h; exact h
                      have t1 : (tm[145]?.getD undef) = .bool false := by have h := hto 1 (by decide); simp only [Array.getD_eq_getD_getElem?] at h; exact h
                      have t2 : (tm[146]?.getD undef) = .slice (some ⟨b1, o1, none⟩) nn nc := by have h := hto 2 (by decide); simp only [Array.getD_eq_getD_getElem?] at h; exact h
                      have t3 : (tm[147]?.getD undef) = .int .i64 (jr : Int) := by have h := hto 3 (by decide); simp only [Array.getD_eq_getD_getElem?] at h; exact h
                      have t4 : (tm[148]?.getD undef) = .pointer (some ⟨b1, o1 + jr * 3, none⟩) := by have h := hto 4 (by decide); simp only [Array.getD_eq_getD_getElem?] at h; exact h
                      have t5 : (tm[149]?.getD undef) = .pointer (some ⟨b1, o1 + jr * 3, none⟩) := by have h := hto 5 (by decide); simp only [Array.getD_eq_getD_getElem?] at h; exact h
                      have t6 : (tm[150]?.getD undef) = .slice la 1 lc := by have h := hto 6 (by decide); simp only [Array.getD_eq_getD_getElem?] at h; exact h
                      have t7 : (tm[151]?.getD undef) = .slice (some ⟨b1, o1, none⟩) nn nc := by have h := hto 7 (by decide); simp only [Array.getD_eq_getD_getElem?] at h; exact h
                      have t8 : (tm[152]?.getD undef) = .int .i64 (q : Int) := by have h := hto 8 (by decide); simp only [Array.getD_eq_getD_getElem?] at h; exact h
                      have t9 : (tm[153]?.getD undef) = .pointer (some ⟨b1, o1 + q * 3, none⟩) := by have h := hto 9 (by decide); simp only [Array.getD_eq_getD_getElem?] at h; exact h
                      have t10 : (tm[154]?.getD undef) = .pointer (some ⟨b1, o1 + q * 3 + 1, none⟩) := by have h := hto 10 (by decide); simp only [Array.getD_eq_getD_getElem?] at h; exact h
                      have t11 : (tm[155]?.getD undef) = .slice ja jn jc := by have h := hto 11 (by decide); simp only [Array.getD_eq_getD_getElem?] at h; exact h
                      have t12 : (tm[156]?.getD undef) = .bool false := by have h := hto 12 (by decide); simp only [Array.getD_eq_getD_getElem?] at h; exact h
                      have t13 : (tm[157]?.getD undef) = .bool false := by have h := hto 13 (by decide); simp only [Array.getD_eq_getD_getElem?] at h; exact h
                      have t14 : True := by have h := hto 14 (by decide); simp only [Array.getD_eq_getD_getElem?] at h; exact h
                      have t15 : True := by have h := hto 15 (by decide); simp only [Array.getD_eq_getD_getElem?] at h; exact h
                      have t16 : True := by have h := hto 16 (by decide); simp only [Array.getD_eq_getD_getElem?] at h; exact h
                      have t17 : True := by have h := hto 17 (by decide); simp only [Array.getD_eq_getD_getElem?] at h; exact h
                      have t18 : True := by have h := hto 18 (by decide); simp only [Array.getD_eq_getD_getElem?] at h; exact h
                      have t19 : True := by have h := hto 19 (by decide); simp only [Array.getD_eq_getD_getElem?] at h; exact h
                      have t20 : True := by have h := hto 20 (by decide); simp only [Array.getD_eq_getD_getElem?] at h; exact h
                      have t21 : True := by have h := hto 21 (by decide); simp only [Array.getD_eq_getD_getElem?] at h; exact h
                      have t22 : True := by have h := hto 22 (by decide); simp only [Array.getD_eq_getD_getElem?] at h; exact h
                      have t23 : True := by have h := hto 23 (by decide); simp only [Array.getD_eq_getD_getElem?] at h; exact h
                      have t24 : True := by have h := hto 24 (by decide); simp only [Array.getD_eq_getD_getElem?] at h; exact h
                      have t25 : (tm[169]?.getD undef) = .bool false := by have h := hto 25 (by decide); simp only [Array.getD_eq_getD_getElem?] at h; exact h
                      have t26 : (tm[170]?.getD undef) = .bool false := by have h := hto 26 (by decide); simp only [Array.getD_eq_getD_getElem?] at h; exact h
                      have t27 : (tm[23]?.getD undef) = .bool false := by have h := hto 27 (by decide); simp only [Array.getD_eq_getD_getElem?] at h; exact h
                      clear hto
                      generalize tm[23]?.getD undef = y23 at *
                      generalize tm[144]?.getD undef = y144 at *
                      generalize tm[145]?.getD undef = y145 at *
                      generalize tm[146]?.getD undef = y146 at *
                      generalize tm[147]?.getD undef = y147 at *
                      generalize tm[148]?.getD undef = y148 at *
                      generalize tm[149]?.getD undef = y149 at *
                      generalize tm[150]?.getD undef = y150 at *
                      generalize tm[151]?.getD undef = y151 at *
                      generalize tm[152]?.getD undef = y152 at *
                      generalize tm[153]?.getD undef = y153 at *
                      generalize tm[154]?.getD undef = y154 at *
                      generalize tm[155]?.getD undef = y155 at *
                      generalize tm[156]?.getD undef = y156 at *
                      generalize tm[157]?.getD undef = y157 at *
                      generalize tm[158]?.getD undef = y158 at *
                      generalize tm[159]?.getD undef = y159 at *
                      generalize tm[160]?.getD undef = y160 at *
                      generalize tm[161]?.getD undef = y161 at *
                      generalize tm[162]?.getD undef = y162 at *
                      generalize tm[163]?.getD undef = y163 at *
                      generalize tm[164]?.getD undef = y164 at *
                      generalize tm[165]?.getD undef = y165 at *
                      generalize tm[166]?.getD undef = y166 at *
                      generalize tm[167]?.getD undef = y167 at *
                      generalize tm[168]?.getD undef = y168 at *
                      generalize tm[169]?.getD undef = y169 at *
                      generalize tm[170]?.getD undef = y170 at *
                      clear hfr hsz tm
                      obtain rfl := t27
                      have hb9 := grown_below7 hJ
                      have HB9 : Hid (Below wo.heap.size wo w9) := HBI.out.trans (hb9.mono HBI.out.size)
                      have HK9 : Hid (Below w.heap.size w w9 ∧ w9.heap[g2]? = some (.cells #[.slice ba2 bn2 bc2, .slice ra2 rn2 rc2] 32 (0, 0)) ∧ Rs w9 (some ⟨b1, o1, none⟩) nn nc outs ∧ Rs w9 ra2 rn2 rc2 ys2) := ⟨HKI.out.1.trans (hb9.mono HKI.out.1.size), (hb9.block _ (Array.getElem?_eq_some_iff.1 HKI.out.2.1).1).trans HKI.out.2.1, HKI.out.2.2.1.below hb9 (Nat.le_refl _), HKI.out.2.2.2.below hb9 (Nat.le_refl _)⟩
                      clear t0 t1 t2 t3 t4 t5 t6 t7 t8 t9 t10 t11 t12 t13 t14 t15 t16 t17 t18 t19 t20 t21 t22 t23 t24 t25 t26 hJ hb9
                      go_wp2
                      go_roundw
                      case rel => exact ⟨q + 1, false, by omega, by go_num, rfl, HRES.out, HK9.out, HB9.out⟩
                      case measure => simp [intOf]; omega
                    · obtain ⟨s2, hs2⟩ : ∃ b, decide ([y] = KL) = b := ⟨_, rfl⟩
                      have HS1 := Lib.hid hs1
                      have HS2 := Lib.hid hs2
                      have HRES : Hid (Spec.hasT NL x y (q + 1) = s2) := by
                        show Spec.hasT NL x y (q + 1) = s2
                        have e1 := of_decide_eq_true hs1
                        rw [HNX.out, Bool.false_or, ← hs2]
                        congr 1
                        exact propext ⟨fun h => h.1.symm, fun h => ⟨h.symm, e1.symm⟩⟩
                      clear hs1 hs2
                      go_wp2_with fail
                      refine wp_region_told2 HMX.out 28 [(144, 144), (145, 145), (146, 146), (147, 147), (148, 148), (149, 149), (150, 150), (151, 151), (152, 152), (153, 153), (154, 154), (155, 155), (156, 156), (157, 157), (158, 158), (159, 159), (160, 160), (161, 161), (162, 162), (163, 163), (164, 164), (165, 165), (166, 166), (167, 167), (168, 168), (169, 169), (170, 170), (23, 23)]
                        (fun (j : Nat) (v u : Value) (w0 : World) => match j with
                          | 0 => v = .bool false
                          | 1 => v = .bool false
                          | 2 => v = .slice (some ⟨b1, o1, none⟩) nn nc
                          | 3 => v = .int .i64 (jr : Int)
                          | 4 => v = .pointer (some ⟨b1, o1 + jr * 3, none⟩)
                          | 5 => v = .pointer (some ⟨b1, o1 + jr * 3, none⟩)
                          | 6 => v = .slice la 1 lc
                          | 7 => v = .slice (some ⟨b1, o1, none⟩) nn nc
                          | 8 => v = .int .i64 (q : Int)
                          | 9 => v = .pointer (some ⟨b1, o1 + q * 3, none⟩)
                          | 10 => v = .pointer (some ⟨b1, o1 + q * 3 + 1, none⟩)
                          | 11 => v = .slice ja jn jc
                          | 12 => v = .bool true
                          | 13 => v = .bool true
                          | 14 => v = .slice (some ⟨b1, o1, none⟩) nn nc
                          | 15 => v = .int .i64 (jr : Int)
                          | 16 => v = .pointer (some ⟨b1, o1 + jr * 3, none⟩)
                          | 17 => v = .pointer (some ⟨b1, o1 + jr * 3 + 1, none⟩)
                          | 18 => v = .slice ra 1 rc
                          | 19 => v = .slice (some ⟨b1, o1, none⟩) nn nc
                          | 20 => v = .int .i64 (q : Int)
                          | 21 => v = .pointer (some ⟨b1, o1 + q * 3, none⟩)
                          | 22 => v = .pointer (some ⟨b1, o1 + q * 3, none⟩)
                          | 23 => v = .slice ka kn kc
                          | 24 => v = .bool s2
                          | 25 => v = .bool s2
                          | 26 => v = .bool s2
                          | 27 => v = .bool s2
                          | _ => True)
                        (fun W => (wr).drew.grownBy W none) (fun _ _ _ => False) (by kernel_rfl) (by kernel_rfl) (World.grownBy.refl _ _) (fun _ _ h1 h2 => h1.trans h2) (fun _ _ _ _ h => h.elim) ?_ ?_ ?_ ?_
                      · intro j v u w0 w' h hg
                        match j, h with
                        | 0, h => exact h
                        | 1, h => exact h
                        | 2, h => exact h
                        | 3, h => exact h
                        | 4, h => exact h
                        | 5, h => exact h
                        | 6, h => exact h
                        | 7, h => exact h
                        | 8, h => exact h
                        | 9, h => exact h
                        | 10, h => exact h
                        | 11, h => exact h
                        | 12, h => exact h
                        | 13, h => exact h
                        | 14, h => exact h
                        | 15, h => exact h
                        | 16, h => exact h
                        | 17, h => exact h
                        | 18, h => exact h
                        | 19, h => exact h
                        | 20, h => exact h
                        | 21, h => exact h
                        | 22, h => exact h
                        | 23, h => exact h
                        | 24, h => exact h
                        | 25, h => exact h
                        | 26, h => exact h
                        | 27, h => exact h
                        | j + 28, h => exact h
                      · intro j v u a0 w0 w' hne h hr
                        match j, hne, h with
                        | 0, hne, h => exact h
                        | 1, hne, h => exact h
                        | 2, hne, h => exact h
                        | 3, hne, h => exact h
                        | 4, hne, h => exact h
                        | 5, hne, h => exact h
                        | 6, hne, h => exact h
                        | 7, hne, h => exact h
                        | 8, hne, h => exact h
                        | 9, hne, h => exact h
                        | 10, hne, h => exact h
                        | 11, hne, h => exact h
                        | 12, hne, h => exact h
                        | 13, hne, h => exact h
                        | 14, hne, h => exact h
                        | 15, hne, h => exact h
                        | 16, hne, h => exact h
                        | 17, hne, h => exact h
                        | 18, hne, h => exact h
                        | 19, hne, h => exact h
                        | 20, hne, h => exact h
                        | 21, hne, h => exact h
                        | 22, hne, h => exact h
                        | 23, hne, h => exact h
                        | 24, hne, h => exact h
                        | 25, hne, h => exact h
                        | 26, hne, h => exact h
                        | 27, hne, h => exact h
                        | j + 28, _, h => exact h
                      · intro i1 o ho a1 w1 hJ hw ht
                        match i1, ho with
                        | 0, ho =>
                          obtain rfl := Option.some.inj ho
                          exact StepsTo.move rfl (.tmp 23) (.inl rfl) ⟨(show a1.eval (.tmp 23) = .bool false from (hw 23 (by kernel_rfl))), fun h => absurd h (by decide), fun _ => World.grownBy.refl _ _⟩
                        | 1, ho =>
                          obtain rfl := Option.some.inj ho
                          exact StepsTo.move rfl (.tmp 144) (.inl rfl) ⟨(show a1.eval (.tmp 144) = .bool false from (ht 0 (by kernel_rfl))), fun h => absurd h (by decide), fun _ => World.grownBy.refl _ _⟩
                        | 2, ho =>
                          obtain rfl := Option.some.inj ho
                          refine StepsTo.guarded (wanted_of rfl rfl (show a1.eval (.tmp 145) = .bool false from (ht 1 (by kernel_rfl)))) ?_
                          exact StepsTo.move rfl (.tmp 21) (.inl rfl) ⟨(show a1.eval (.tmp 21) = .slice (some ⟨b1, o1, none⟩) nn nc from (hw 21 (by kernel_rfl))), fun h => absurd h (by decide), fun _ => World.grownBy.refl _ _⟩
                        | 3, ho =>
                          obtain rfl := Option.some.inj ho
                          refine StepsTo.guarded (wanted_of rfl rfl (show a1.eval (.tmp 145) = .bool false from (ht 1 (by kernel_rfl)))) ?_
                          exact StepsTo.move rfl (.tmp 22) (.inl rfl) ⟨(show a1.eval (.tmp 22) = .int .i64 (jr : Int) from (hw 22 (by kernel_rfl))), fun h => absurd h (by decide), fun _ => World.grownBy.refl _ _⟩
                        | 4, ho =>
                          obtain rfl := Option.some.inj ho
                          refine StepsTo.guarded (wanted_of rfl rfl (show a1.eval (.tmp 145) = .bool false from (ht 1 (by kernel_rfl)))) ?_
                          exact StepsTo.of_run rfl (run_idxR rfl (show a1.eval (.tmp 146) = (.slice (some ⟨b1, o1, none⟩) nn nc) from (ht 2 (by kernel_rfl))) (show a1.eval (.tmp 147) = .int .i64 (jr : Int) from (ht 3 (by kernel_rfl))) (by omega)) ⟨rfl, fun h => absurd h (by decide), fun _ => World.grownBy.refl _ _⟩
                        | 5, ho =>
                          obtain rfl := Option.some.inj ho
                          refine StepsTo.guarded (wanted_of rfl rfl (show a1.eval (.tmp 145) = .bool false from (ht 1 (by kernel_rfl)))) ?_
                          exact StepsTo.of_run rfl (run_faddrR 0 (by decide) rfl (show a1.eval (.tmp 148) = .pointer (some ⟨b1, o1 + jr * 3, none⟩) from (ht 4 (by kernel_rfl)))) ⟨rfl, fun h => absurd h (by decide), fun _ => World.grownBy.refl _ _⟩
                        | 6, ho =>
                          obtain rfl := Option.some.inj ho
                          refine StepsTo.guarded (wanted_of rfl rfl (show a1.eval (.tmp 145) = .bool false from (ht 1 (by kernel_rfl)))) ?_
                          exact steps_ldd (ldd_side la 1 lc) rfl (.tmp 149) rfl (ht 5 (by kernel_rfl)) (((grown_below7 hJ).cell (p := ⟨b1, o1 + jr * 3, none⟩) HBW.out).trans HA1.out) ⟨rfl, fun h => absurd h (by decide), fun _ => World.grownBy.refl _ _⟩
                        | 7, ho =>
                          obtain rfl := Option.some.inj ho
                          refine StepsTo.guarded (wanted_of rfl rfl (show a1.eval (.tmp 145) = .bool false from (ht 1 (by kernel_rfl)))) ?_
                          exact StepsTo.move rfl (.tmp 21) (.inl rfl) ⟨(show a1.eval (.tmp 21) = .slice (some ⟨b1, o1, none⟩) nn nc from (hw 21 (by kernel_rfl))), fun h => absurd h (by decide), fun _ => World.grownBy.refl _ _⟩
                        | 8, ho =>
                          obtain rfl := Option.some.inj ho
                          refine StepsTo.guarded (wanted_of rfl rfl (show a1.eval (.tmp 145) = .bool false from (ht 1 (by kernel_rfl)))) ?_
                          exact StepsTo.move rfl (.tmp 24) (.inl rfl) ⟨(show a1.eval (.tmp 24) = .int .i64 (q : Int) from (hw 24 (by kernel_rfl))), fun h => absurd h (by decide), fun _ => World.grownBy.refl _ _⟩
                        | 9, ho =>
                          obtain rfl := Option.some.inj ho
                          refine StepsTo.guarded (wanted_of rfl rfl (show a1.eval (.tmp 145) = .bool false from (ht 1 (by kernel_rfl)))) ?_
                          exact StepsTo.of_run rfl (run_idxR rfl (show a1.eval (.tmp 151) = (.slice (some ⟨b1, o1, none⟩) nn nc) from (ht 7 (by kernel_rfl))) (show a1.eval (.tmp 152) = .int .i64 (q : Int) from (ht 8 (by kernel_rfl))) (by omega)) ⟨rfl, fun h => absurd h (by decide), fun _ => World.grownBy.refl _ _⟩
                        | 10, ho =>
                          obtain rfl := Option.some.inj ho
                          refine StepsTo.guarded (wanted_of rfl rfl (show a1.eval (.tmp 145) = .bool false from (ht 1 (by kernel_rfl)))) ?_
                          exact StepsTo.of_run rfl (run_faddrR 1 (by decide) rfl (show a1.eval (.tmp 153) = .pointer (some ⟨b1, o1 + q * 3, none⟩) from (ht 9 (by kernel_rfl)))) ⟨rfl, fun h => absurd h (by decide), fun _ => World.grownBy.refl _ _⟩
                        | 11, ho =>
                          obtain rfl := Option.some.inj ho
                          refine StepsTo.guarded (wanted_of rfl rfl (show a1.eval (.tmp 145) = .bool false from (ht 1 (by kernel_rfl)))) ?_
                          exact steps_ldd (ldd_side ja jn jc) rfl (.tmp 154) rfl (ht 10 (by kernel_rfl)) (((grown_below7 hJ).cell (p := ⟨b1, o1 + q * 3 + 1, none⟩) HBW.out).trans HQ2.out) ⟨rfl, fun h => absurd h (by decide), fun _ => World.grownBy.refl _ _⟩
                        | 12, ho =>
                          obtain rfl := Option.some.inj ho
                          refine StepsTo.guarded (wanted_of rfl rfl (show a1.eval (.tmp 145) = .bool false from (ht 1 (by kernel_rfl)))) ?_
                          have e1 : a1.eval (.tmp 150) = .slice la 1 lc := (ht 6 (by kernel_rfl))
                          have e2 : a1.eval (.tmp 155) = .slice ja jn jc := (ht 11 (by kernel_rfl))
                          have hb := grown_below7 hJ
                          refine StepsTo.enter rfl _ _ (run_sameI rfl e1 e2) (same_is la ja 1 jn lc jc [x] JR true w1 (HSX.out.below hb (Nat.le_refl _)) (HSJ.out.below hb (Nat.le_refl _)) HS1.out) (fun e w' h => ?_)
                          exact ⟨_, h.1, rfl, fun h => absurd h (by decide), fun _ => below_grew7 (below_drawn (Below.refl _ _) h.2)⟩
                        | 13, ho =>
                          obtain rfl := Option.some.inj ho
                          refine StepsTo.guarded (wanted_of rfl rfl (show a1.eval (.tmp 145) = .bool false from (ht 1 (by kernel_rfl)))) ?_
                          exact StepsTo.move rfl (.tmp 156) (.inl rfl) ⟨(show a1.eval (.tmp 156) = .bool true from (ht 12 (by kernel_rfl))), fun h => absurd h (by decide), fun _ => World.grownBy.refl _ _⟩
                        | 14, ho =>
                          obtain rfl := Option.some.inj ho
                          refine StepsTo.guarded (wanted_of rfl rfl (show a1.eval (.tmp 157) = .bool true from (ht 13 (by kernel_rfl)))) ?_
                          exact StepsTo.move rfl (.tmp 21) (.inl rfl) ⟨(show a1.eval (.tmp 21) = .slice (some ⟨b1, o1, none⟩) nn nc from (hw 21 (by kernel_rfl))), fun h => absurd h (by decide), fun _ => World.grownBy.refl _ _⟩
                        | 15, ho =>
                          obtain rfl := Option.some.inj ho
                          refine StepsTo.guarded (wanted_of rfl rfl (show a1.eval (.tmp 157) = .bool true from (ht 13 (by kernel_rfl)))) ?_
                          exact StepsTo.move rfl (.tmp 22) (.inl rfl) ⟨(show a1.eval (.tmp 22) = .int .i64 (jr : Int) from (hw 22 (by kernel_rfl))), fun h => absurd h (by decide), fun _ => World.grownBy.refl _ _⟩
                        | 16, ho =>
                          obtain rfl := Option.some.inj ho
                          refine StepsTo.guarded (wanted_of rfl rfl (show a1.eval (.tmp 157) = .bool true from (ht 13 (by kernel_rfl)))) ?_
                          exact StepsTo.of_run rfl (run_idxR rfl (show a1.eval (.tmp 158) = (.slice (some ⟨b1, o1, none⟩) nn nc) from (ht 14 (by kernel_rfl))) (show a1.eval (.tmp 159) = .int .i64 (jr : Int) from (ht 15 (by kernel_rfl))) (by omega)) ⟨rfl, fun h => absurd h (by decide), fun _ => World.grownBy.refl _ _⟩
                        | 17, ho =>
                          obtain rfl := Option.some.inj ho
                          refine StepsTo.guarded (wanted_of rfl rfl (show a1.eval (.tmp 157) = .bool true from (ht 13 (by kernel_rfl)))) ?_
                          exact StepsTo.of_run rfl (run_faddrR 1 (by decide) rfl (show a1.eval (.tmp 160) = .pointer (some ⟨b1, o1 + jr * 3, none⟩) from (ht 16 (by kernel_rfl)))) ⟨rfl, fun h => absurd h (by decide), fun _ => World.grownBy.refl _ _⟩
                        | 18, ho =>
                          obtain rfl := Option.some.inj ho
                          refine StepsTo.guarded (wanted_of rfl rfl (show a1.eval (.tmp 157) = .bool true from (ht 13 (by kernel_rfl)))) ?_
                          exact steps_ldd (ldd_side ra 1 rc) rfl (.tmp 161) rfl (ht 17 (by kernel_rfl)) (((grown_below7 hJ).cell (p := ⟨b1, o1 + jr * 3 + 1, none⟩) HBW.out).trans HA2.out) ⟨rfl, fun h => absurd h (by decide), fun _ => World.grownBy.refl _ _⟩
                        | 19, ho =>
                          obtain rfl := Option.some.inj ho
                          refine StepsTo.guarded (wanted_of rfl rfl (show a1.eval (.tmp 157) = .bool true from (ht 13 (by kernel_rfl)))) ?_
                          exact StepsTo.move rfl (.tmp 21) (.inl rfl) ⟨(show a1.eval (.tmp 21) = .slice (some ⟨b1, o1, none⟩) nn nc from (hw 21 (by kernel_rfl))), fun h => absurd h (by decide), fun _ => World.grownBy.refl _ _⟩
                        | 20, ho =>
                          obtain rfl := Option.some.inj ho
                          refine StepsTo.guarded (wanted_of rfl rfl (show a1.eval (.tmp 157) = .bool true from (ht 13 (by kernel_rfl)))) ?_
                          exact StepsTo.move rfl (.tmp 24) (.inl rfl) ⟨(show a1.eval (.tmp 24) = .int .i64 (q : Int) from (hw 24 (by kernel_rfl))), fun h => absurd h (by decide), fun _ => World.grownBy.refl _ _⟩
                        | 21, ho =>
                          obtain rfl := Option.some.inj ho
                          refine StepsTo.guarded (wanted_of rfl rfl (show a1.eval (.tmp 157) = .bool true from (ht 13 (by kernel_rfl)))) ?_
                          exact StepsTo.of_run rfl (run_idxR rfl (show a1.eval (.tmp 163) = (.slice (some ⟨b1, o1, none⟩) nn nc) from (ht 19 (by kernel_rfl))) (show a1.eval (.tmp 164) = .int .i64 (q : Int) from (ht 20 (by kernel_rfl))) (by omega)) ⟨rfl, fun h => absurd h (by decide), fun _ => World.grownBy.refl _ _⟩
                        | 22, ho =>
                          obtain rfl := Option.some.inj ho
                          refine StepsTo.guarded (wanted_of rfl rfl (show a1.eval (.tmp 157) = .bool true from (ht 13 (by kernel_rfl)))) ?_
                          exact StepsTo.of_run rfl (run_faddrR 0 (by decide) rfl (show a1.eval (.tmp 165) = .pointer (some ⟨b1, o1 + q * 3, none⟩) from (ht 21 (by kernel_rfl)))) ⟨rfl, fun h => absurd h (by decide), fun _ => World.grownBy.refl _ _⟩
                        | 23, ho =>
                          obtain rfl := Option.some.inj ho
                          refine StepsTo.guarded (wanted_of rfl rfl (show a1.eval (.tmp 157) = .bool true from (ht 13 (by kernel_rfl)))) ?_
                          exact steps_ldd (ldd_side ka kn kc) rfl (.tmp 166) rfl (ht 22 (by kernel_rfl)) (((grown_below7 hJ).cell (p := ⟨b1, o1 + q * 3, none⟩) HBW.out).trans HQ1.out) ⟨rfl, fun h => absurd h (by decide), fun _ => World.grownBy.refl _ _⟩
                        | 24, ho =>
                          obtain rfl := Option.some.inj ho
                          refine StepsTo.guarded (wanted_of rfl rfl (show a1.eval (.tmp 157) = .bool true from (ht 13 (by kernel_rfl)))) ?_
                          have e1 : a1.eval (.tmp 162) = .slice ra 1 rc := (ht 18 (by kernel_rfl))
                          have e2 : a1.eval (.tmp 167) = .slice ka kn kc := (ht 23 (by kernel_rfl))
                          have hb := grown_below7 hJ
                          refine StepsTo.enter rfl _ _ (run_sameI rfl e1 e2) (same_is ra ka 1 kn rc kc [y] KL s2 w1 (HSY.out.below hb (Nat.le_refl _)) (HSK.out.below hb (Nat.le_refl _)) HS2.out) (fun e w' h => ?_)
                          exact ⟨_, h.1, rfl, fun h => absurd h (by decide), fun _ => below_grew7 (below_drawn (Below.refl _ _) h.2)⟩
                        | 25, ho =>
                          obtain rfl := Option.some.inj ho
                          refine StepsTo.guarded (wanted_of rfl rfl (show a1.eval (.tmp 145) = .bool false from (ht 1 (by kernel_rfl)))) ?_
                          exact StepsTo.of_run rfl (run_pick rfl (show a1.eval (.tmp 157) = .bool true from (ht 13 (by kernel_rfl))) (show a1.eval (.tmp 168) = .bool s2 from (ht 24 (by kernel_rfl))) rfl) ⟨rfl, fun h => absurd h (by decide), fun _ => World.grownBy.refl _ _⟩
                        | 26, ho =>
                          obtain rfl := Option.some.inj ho
                          exact StepsTo.of_run rfl (run_pick rfl (show a1.eval (.tmp 145) = .bool false from (ht 1 (by kernel_rfl))) rfl (show a1.eval (.tmp 169) = .bool s2 from (ht 25 (by kernel_rfl)))) ⟨rfl, fun h => absurd h (by decide), fun _ => World.grownBy.refl _ _⟩
                        | 27, ho =>
                          obtain rfl := Option.some.inj ho
                          exact StepsTo.move rfl (.tmp 170) (.inr rfl) ⟨(ht 26 (by kernel_rfl)), fun h => absurd h (by decide), fun _ => World.grownBy.refl _ _⟩
                        | j1 + 28, ho => exact absurd (Array.getElem?_eq_some_iff.1 ho).1 (by simp)
                      intro tm w9 hsz hJ hfr hto
                      rw [act_lit2 tm (show tm.size = 219 from hsz)]
                      simp only [List.range, List.range.loop, List.map_cons, List.map_nil]
                      rw [hfr 0 (by kernel_rfl), hfr 1 (by kernel_rfl), hfr 2 (by kernel_rfl), hfr 3 (by kernel_rfl), hfr 4 (by kernel_rfl), hfr 5 (by kernel_rfl), hfr 6 (by kernel_rfl), hfr 7 (by kernel_rfl), hfr 8 (by kernel_rfl), hfr 9 (by kernel_rfl), hfr 10 (by kernel_rfl), hfr 11 (by kernel_rfl), hfr 12 (by kernel_rfl), hfr 13 (by kernel_rfl), hfr 14 (by kernel_rfl), hfr 15 (by kernel_rfl), hfr 16 (by kernel_rfl), hfr 17 (by kernel_rfl), hfr 18 (by kernel_rfl), hfr 19 (by kernel_rfl), hfr 20 (by kernel_rfl), hfr 21 (by kernel_rfl), hfr 22 (by kernel_rfl), hfr 24 (by kernel_rfl), hfr 25 (by kernel_rfl), hfr 26 (by kernel_rfl), hfr 27 (by kernel_rfl), hfr 28 (by kernel_rfl), hfr 29 (by kernel_rfl), hfr 30 (by kernel_rfl), hfr 31 (by kernel_rfl), hfr 32 (by kernel_rfl), hfr 33 (by kernel_rfl), hfr 34 (by kernel_rfl), hfr 35 (by kernel_rfl), hfr 36 (by kernel_rfl), hfr 37 (by kernel_rfl), hfr 38 (by kernel_rfl), hfr 39 (by kernel_rfl), hfr 40 (by kernel_rfl), hfr 41 (by kernel_rfl), hfr 42 (by kernel_rfl), hfr 43 (by kernel_rfl), hfr 44 (by kernel_rfl), hfr 45 (by kernel_rfl), hfr 46 (by kernel_rfl), hfr 47 (by kernel_rfl), hfr 48 (by kernel_rfl), hfr 49 (by kernel_rfl), hfr 50 (by kernel_rfl), hfr 51 (by kernel_rfl), hfr 52 (by kernel_rfl), hfr 53 (by kernel_rfl), hfr 54 (by kernel_rfl), hfr 55 (by kernel_rfl), hfr 56 (by kernel_rfl), hfr 57 (by kernel_rfl), hfr 58 (by kernel_rfl), hfr 59 (by kernel_rfl), hfr 60 (by kernel_rfl), hfr 61 (by kernel_rfl), hfr 62 (by kernel_rfl), hfr 63 (by kernel_rfl), hfr 64 (by kernel_rfl), hfr 65 (by kernel_rfl), hfr 66 (by kernel_rfl), hfr 67 (by kernel_rfl), hfr 68 (by kernel_rfl), hfr 69 (by kernel_rfl), hfr 70 (by kernel_rfl), hfr 71 (by kernel_rfl), hfr 72 (by kernel_rfl), hfr 73 (by kernel_rfl), hfr 74 (by kernel_rfl), hfr 75 (by kernel_rfl), hfr 76 (by kernel_rfl), hfr 77 (by kernel_rfl), hfr 78 (by kernel_rfl), hfr 79 (by kernel_rfl), hfr 80 (by kernel_rfl), hfr 81 (by kernel_rfl), hfr 82 (by kernel_rfl), hfr 83 (by kernel_rfl), hfr 84 (by kernel_rfl), hfr 85 (by kernel_rfl), hfr 86 (by kernel_rfl), hfr 87 (by kernel_rfl), hfr 88 (by kernel_rfl), hfr 89 (by kernel_rfl), hfr 90 (by kernel_rfl), hfr 91 (by kernel_rfl), hfr 92 (by kernel_rfl), hfr 93 (by kernel_rfl), hfr 94 (by kernel_rfl), hfr 95 (by kernel_rfl), hfr 96 (by kernel_rfl), hfr 97 (by kernel_rfl), hfr 98 (by kernel_rfl), hfr 99 (by kernel_rfl), hfr 100 (by kernel_rfl), hfr 101 (by kernel_rfl), hfr 102 (by kernel_rfl), hfr 103 (by kernel_rfl), hfr 104 (by kernel_rfl), hfr 105 (by kernel_rfl), hfr 106 (by kernel_rfl), hfr 107 (by kernel_rfl), hfr 108 (by kernel_rfl), hfr 109 (by kernel_rfl), hfr 110 (by kernel_rfl), hfr 111 (by kernel_rfl), hfr 112 (by kernel_rfl), hfr 113 (by kernel_rfl), hfr 114 (by kernel_rfl), hfr 115 (by kernel_rfl), hfr 116 (by kernel_rfl), hfr 117 (by kernel_rfl), hfr 118 (by kernel_rfl), hfr 119 (by kernel_rfl), hfr 120 (by kernel_rfl), hfr 121 (by kernel_rfl), hfr 122 (by kernel_rfl), hfr 123 (by kernel_rfl), hfr 124 (by kernel_rfl), hfr 125 (by kernel_rfl), hfr 126 (by kernel_rfl), hfr 127 (by kernel_rfl), hfr 128 (by kernel_rfl), hfr 129 (by kernel_rfl), hfr 130 (by kernel_rfl), hfr 131 (by kernel_rfl), hfr 132 (by kernel_rfl), hfr 133 (by kernel_rfl), hfr 134 (by kernel_rfl), hfr 135 (by kernel_rfl), hfr 136 (by kernel_rfl), hfr 137 (by kernel_rfl), hfr 138 (by kernel_rfl), hfr 139 (by kernel_rfl), hfr 140 (by kernel_rfl), hfr 141 (by kernel_rfl), hfr 142 (by kernel_rfl), hfr 143 (by kernel_rfl), hfr 171 (by kernel_rfl), hfr 172 (by kernel_rfl), hfr 173 (by kernel_rfl), hfr 174 (by kernel_rfl), hfr 175 (by kernel_rfl), hfr 176 (by kernel_rfl), hfr 177 (by kernel_rfl), hfr 178 (by kernel_rfl), hfr 179 (by kernel_rfl), hfr 180 (by kernel_rfl), hfr 181 (by kernel_rfl), hfr 182 (by kernel_rfl), hfr 183 (by kernel_rfl), hfr 184 (by kernel_rfl), hfr 185 (by kernel_rfl), hfr 186 (by kernel_rfl), hfr 187 (by kernel_rfl), hfr 188 (by kernel_rfl), hfr 189 (by kernel_rfl), hfr 190 (by kernel_rfl), hfr 191 (by kernel_rfl), hfr 192 (by kernel_rfl), hfr 193 (by kernel_rfl), hfr 194 (by kernel_rfl), hfr 195 (by kernel_rfl), hfr 196 (by kernel_rfl), hfr 197 (by kernel_rfl), hfr 198 (by kernel_rfl), hfr 199 (by kernel_rfl), hfr 200 (by kernel_rfl), hfr 201 (by kernel_rfl), hfr 202 (by kernel_rfl), hfr 203 (by kernel_rfl), hfr 204 (by kernel_rfl), hfr 205 (by kernel_rfl), hfr 206 (by kernel_rfl), hfr 207 (by kernel_rfl), hfr 208 (by kernel_rfl), hfr 209 (by kernel_rfl), hfr 210 (by kernel_rfl), hfr 211 (by kernel_rfl), hfr 212 (by kernel_rfl), hfr 213 (by kernel_rfl), hfr 214 (by kernel_rfl), hfr 215 (by kernel_rfl), hfr 216 (by kernel_rfl), hfr 217 (by kernel_rfl), hfr 218 (by kernel_rfl)]
                      simp only [Array.getD_eq_getD_getElem?, List.getElem?_toArray, List.getElem?_cons_succ, List.getElem?_cons_zero, Option.getD_some]
                      have t0 : (tm[144]?.getD undef) = .bool false := by have h := hto 0 (by decide); simp only [Array.getD_eq_getD_getElem?] at h; exact h
                      have t1 : (tm[145]?.getD undef) = .bool false := by have h := hto 1 (by decide); simp only [Array.getD_eq_getD_getElem?] at h; exact h
                      have t2 : (tm[146]?.getD undef) = .slice (some ⟨b1, o1, none⟩) nn nc := by have h := hto 2 (by decide); simp only [Array.getD_eq_getD_getElem?] at h; exact h
                      have t3 : (tm[147]?.getD undef) = .int .i64 (jr : Int) := by have h := hto 3 (by decide); simp only [Array.getD_eq_getD_getElem?] at h; exact h
                      have t4 : (tm[148]?.getD undef) = .pointer (some ⟨b1, o1 + jr * 3, none⟩) := by have h := hto 4 (by decide); simp only [Array.getD_eq_getD_getElem?] at h; exact h
                      have t5 : (tm[149]?.getD undef) = .pointer (some ⟨b1, o1 + jr * 3, none⟩) := by have h := hto 5 (by decide); simp only [Array.getD_eq_getD_getElem?] at h; exact h
                      have t6 : (tm[150]?.getD undef) = .slice la 1 lc := by have h := hto 6 (by decide); simp only [Array.getD_eq_getD_getElem?] at h; exact h
                      have t7 : (tm[151]?.getD undef) = .slice (some ⟨b1, o1, none⟩) nn nc := by have h := hto 7 (by decide); simp only [Array.getD_eq_getD_getElem?] at h; exact h
                      have t8 : (tm[152]?.getD undef) = .int .i64 (q : Int) := by have h := hto 8 (by decide); simp only [Array.getD_eq_getD_getElem?] at h; exact h
                      have t9 : (tm[153]?.getD undef) = .pointer (some ⟨b1, o1 + q * 3, none⟩) := by have h := hto 9 (by decide); simp only [Array.getD_eq_getD_getElem?] at h; exact h
                      have t10 : (tm[154]?.getD undef) = .pointer (some ⟨b1, o1 + q * 3 + 1, none⟩) := by have h := hto 10 (by decide); simp only [Array.getD_eq_getD_getElem?] at h; exact h
                      have t11 : (tm[155]?.getD undef) = .slice ja jn jc := by have h := hto 11 (by decide); simp only [Array.getD_eq_getD_getElem?] at h; exact h
                      have t12 : (tm[156]?.getD undef) = .bool true := by have h := hto 12 (by decide); simp only [Array.getD_eq_getD_getElem?] at h; exact h
                      have t13 : (tm[157]?.getD undef) = .bool true := by have h := hto 13 (by decide); simp only [Array.getD_eq_getD_getElem?] at h; exact h
                      have t14 : (tm[158]?.getD undef) = .slice (some ⟨b1, o1, none⟩) nn nc := by have h := hto 14 (by decide); simp only [Array.getD_eq_getD_getElem?] at h; exact h
                      have t15 : (tm[159]?.getD undef) = .int .i64 (jr : Int) := by have h := hto 15 (by decide); simp only [Array.getD_eq_getD_getElem?] at h; exact h
                      have t16 : (tm[160]?.getD undef) = .pointer (some ⟨b1, o1 + jr * 3, none⟩) := by have h := hto 16 (by decide); simp only [Array.getD_eq_getD_getElem?] at h; exact h
                      have t17 : (tm[161]?.getD undef) = .pointer (some ⟨b1, o1 + jr * 3 + 1, none⟩) := by have h := hto 17 (by decide); simp only [Array.getD_eq_getD_getElem?] at h; exact h
                      have t18 : (tm[162]?.getD undef) = .slice ra 1 rc := by have h := hto 18 (by decide); simp only [Array.getD_eq_getD_getElem?] at h; exact h
                      have t19 : (tm[163]?.getD undef) = .slice (some ⟨b1, o1, none⟩) nn nc := by have h := hto 19 (by decide); simp only [Array.getD_eq_getD_getElem?] at h; exact h
                      have t20 : (tm[164]?.getD undef) = .int .i64 (q : Int) := by have h := hto 20 (by decide); simp only [Array.getD_eq_getD_getElem?] at h; exact h
                      have t21 : (tm[165]?.getD undef) = .pointer (some ⟨b1, o1 + q * 3, none⟩) := by have h := hto 21 (by decide); simp only [Array.getD_eq_getD_getElem?] at h; exact h
                      have t22 : (tm[166]?.getD undef) = .pointer (some ⟨b1, o1 + q * 3, none⟩) := by have h := hto 22 (by decide); simp only [Array.getD_eq_getD_getElem?] at h; exact h
                      have t23 : (tm[167]?.getD undef) = .slice ka kn kc := by have h := hto 23 (by decide); simp only [Array.getD_eq_getD_getElem?] at h; exact h
                      have t24 : (tm[168]?.getD undef) = .bool s2 := by have h := hto 24 (by decide); simp only [Array.getD_eq_getD_getElem?] at h; exact h
                      have t25 : (tm[169]?.getD undef) = .bool s2 := by have h := hto 25 (by decide); simp only [Array.getD_eq_getD_getElem?] at h; exact h
                      have t26 : (tm[170]?.getD undef) = .bool s2 := by have h := hto 26 (by decide); simp only [Array.getD_eq_getD_getElem?] at h; exact h
                      have t27 : (tm[23]?.getD undef) = .bool s2 := by have h := hto 27 (by decide); simp only [Array.getD_eq_getD_getElem?] at h; exact h
                      clear hto
                      generalize tm[23]?.getD undef = y23 at *
                      generalize tm[144]?.getD undef = y144 at *
                      generalize tm[145]?.getD undef = y145 at *
                      generalize tm[146]?.getD undef = y146 at *
                      generalize tm[147]?.getD undef = y147 at *
                      generalize tm[148]?.getD undef = y148 at *
                      generalize tm[149]?.getD undef = y149 at *
                      generalize tm[150]?.getD undef = y150 at *
                      generalize tm[151]?.getD undef = y151 at *
                      generalize tm[152]?.getD undef = y152 at *
                      generalize tm[153]?.getD undef = y153 at *
                      generalize tm[154]?.getD undef = y154 at *
                      generalize tm[155]?.getD undef = y155 at *
                      generalize tm[156]?.getD undef = y156 at *
                      generalize tm[157]?.getD undef = y157 at *
                      generalize tm[158]?.getD undef = y158 at *
                      generalize tm[159]?.getD undef = y159 at *
                      generalize tm[160]?.getD undef = y160 at *
                      generalize tm[161]?.getD undef = y161 at *
                      generalize tm[162]?.getD undef = y162 at *
                      generalize tm[163]?.getD undef = y163 at *
                      generalize tm[164]?.getD undef = y164 at *
                      generalize tm[165]?.getD undef = y165 at *
                      generalize tm[166]?.getD undef = y166 at *
                      generalize tm[167]?.getD undef = y167 at *
                      generalize tm[168]?.getD undef = y168 at *
                      generalize tm[169]?.getD undef = y169 at *
                      generalize tm[170]?.getD undef = y170 at *
                      clear hfr hsz tm
                      obtain rfl := t27
                      have hb9 := grown_below7 hJ
                      have HB9 : Hid (Below wo.heap.size wo w9) := HBI.out.trans (hb9.mono HBI.out.size)
                      have HK9 : Hid (Below w.heap.size w w9 ∧ w9.heap[g2]? = some (.cells #[.slice ba2 bn2 bc2, .slice ra2 rn2 rc2] 32 (0, 0)) ∧ Rs w9 (some ⟨b1, o1, none⟩) nn nc outs ∧ Rs w9 ra2 rn2 rc2 ys2) := ⟨HKI.out.1.trans (hb9.mono HKI.out.1.size), (hb9.block _ (Array.getElem?_eq_some_iff.1 HKI.out.2.1).1).trans HKI.out.2.1, HKI.out.2.2.1.below hb9 (Nat.le_refl _), HKI.out.2.2.2.below hb9 (Nat.le_refl _)⟩
                      clear t0 t1 t2 t3 t4 t5 t6 t7 t8 t9 t10 t11 t12 t13 t14 t15 t16 t17 t18 t19 t20 t21 t22 t23 t24 t25 t26 hJ hb9
                      go_wp2
                      go_roundw
                      case rel => exact ⟨q + 1, s2, by omega, by go_num, rfl, HRES.out, HK9.out, HB9.out⟩
                      case measure => simp [intOf]; omega
                  · have HRES : Hid (Spec.hasT NL x y (q + 1) = true) := by
                      show Spec.hasT NL x y (q + 1) = true
                      rw [HNX.out, Bool.true_or]
                    go_wp2_with fail
                    refine wp_region_told2 HMX.out 28 [(144, 144), (145, 145), (146, 146), (147, 147), (148, 148), (149, 149), (150, 150), (151, 151), (152, 152), (153, 153), (154, 154), (155, 155), (156, 156), (157, 157), (158, 158), (159, 159), (160, 160), (161, 161), (162, 162), (163, 163), (164, 164), (165, 165), (166, 166), (167, 167), (168, 168), (169, 169), (170, 170), (23, 23)]
                      (fun (j : Nat) (v u : Value) (w0 : World) => match j with
                        | 0 => v = .bool true
                        | 1 => v = .bool true
                        | 2 => True
                        | 3 => True
                        | 4 => True
                        | 5 => True
                        | 6 => True
                        | 7 => True
                        | 8 => True
                        | 9 => True
                        | 10 => True
                        | 11 => True
                        | 12 => True
                        | 13 => v = undef
                        | 14 => True
                        | 15 => True
                        | 16 => True
                        | 17 => True
                        | 18 => True
                        | 19 => True
                        | 20 => True
                        | 21 => True
                        | 22 => True
                        | 23 => True
                        | 24 => True
                        | 25 => True
                        | 26 => v = .bool true
                        | 27 => v = .bool true
                        | _ => True)
                      (fun W => (wr).drew.grownBy W none) (fun _ _ _ => False) (by kernel_rfl) (by kernel_rfl) (World.grownBy.refl _ _) (fun _ _ h1 h2 => h1.trans h2) (fun _ _ _ _ h => h.elim) ?_ ?_ ?_ ?_
                    · intro j v u w0 w' h hg
                      match j, h with
                      | 0, h => exact h
                      | 1, h => exact h
                      | 2, h => trivial
                      | 3, h => trivial
                      | 4, h => trivial
                      | 5, h => trivial
                      | 6, h => trivial
                      | 7, h => trivial
                      | 8, h => trivial
                      | 9, h => trivial
                      | 10, h => trivial
                      | 11, h => trivial
                      | 12, h => trivial
                      | 13, h => exact h
                      | 14, h => trivial
                      | 15, h => trivial
                      | 16, h => trivial
                      | 17, h => trivial
                      | 18, h => trivial
                      | 19, h => trivial
                      | 20, h => trivial
                      | 21, h => trivial
                      | 22, h => trivial
                      | 23, h => trivial
                      | 24, h => trivial
                      | 25, h => trivial
                      | 26, h => exact h
                      | 27, h => exact h
                      | j + 28, h => exact h
                    · intro j v u a0 w0 w' hne h hr
                      match j, hne, h with
                      | 0, hne, h => exact h
                      | 1, hne, h => exact h
                      | 2, hne, h => trivial
                      | 3, hne, h => trivial
                      | 4, hne, h => trivial
                      | 5, hne, h => trivial
                      | 6, hne, h => trivial
                      | 7, hne, h => trivial
                      | 8, hne, h => trivial
                      | 9, hne, h => trivial
                      | 10, hne, h => trivial
                      | 11, hne, h => trivial
                      | 12, hne, h => trivial
                      | 13, hne, h => exact h
                      | 14, hne, h => trivial
                      | 15, hne, h => trivial
                      | 16, hne, h => trivial
                      | 17, hne, h => trivial
                      | 18, hne, h => trivial
                      | 19, hne, h => trivial
                      | 20, hne, h => trivial
                      | 21, hne, h => trivial
                      | 22, hne, h => trivial
                      | 23, hne, h => trivial
                      | 24, hne, h => trivial
                      | 25, hne, h => trivial
                      | 26, hne, h => exact h
                      | 27, hne, h => exact h
                      | j + 28, _, h => exact h
                    · intro i1 o ho a1 w1 hJ hw ht
                      match i1, ho with
                      | 0, ho =>
                        obtain rfl := Option.some.inj ho
                        exact StepsTo.move rfl (.tmp 23) (.inl rfl) ⟨(show a1.eval (.tmp 23) = .bool true from (hw 23 (by kernel_rfl))), fun h => absurd h (by decide), fun _ => World.grownBy.refl _ _⟩
                      | 1, ho =>
                        obtain rfl := Option.some.inj ho
                        exact StepsTo.move rfl (.tmp 144) (.inl rfl) ⟨(show a1.eval (.tmp 144) = .bool true from (ht 0 (by kernel_rfl))), fun h => absurd h (by decide), fun _ => World.grownBy.refl _ _⟩
                      | 2, ho =>
                        obtain rfl := Option.some.inj ho
                        exact StepsTo.passed (passed_of rfl rfl (show a1.eval (.tmp 145) = .bool true from (ht 1 (by kernel_rfl))) (by decide)) ⟨trivial, fun h => absurd h (by decide), fun _ => World.grownBy.refl _ _⟩
                      | 3, ho =>
                        obtain rfl := Option.some.inj ho
                        exact StepsTo.passed (passed_of rfl rfl (show a1.eval (.tmp 145) = .bool true from (ht 1 (by kernel_rfl))) (by decide)) ⟨trivial, fun h => absurd h (by decide), fun _ => World.grownBy.refl _ _⟩
                      | 4, ho =>
                        obtain rfl := Option.some.inj ho
                        exact StepsTo.passed (passed_of rfl rfl (show a1.eval (.tmp 145) = .bool true from (ht 1 (by kernel_rfl))) (by decide)) ⟨trivial, fun h => absurd h (by decide), fun _ => World.grownBy.refl _ _⟩
                      | 5, ho =>
                        obtain rfl := Option.some.inj ho
                        exact StepsTo.passed (passed_of rfl rfl (show a1.eval (.tmp 145) = .bool true from (ht 1 (by kernel_rfl))) (by decide)) ⟨trivial, fun h => absurd h (by decide), fun _ => World.grownBy.refl _ _⟩
                      | 6, ho =>
                        obtain rfl := Option.some.inj ho
                        exact StepsTo.passed (passed_of rfl rfl (show a1.eval (.tmp 145) = .bool true from (ht 1 (by kernel_rfl))) (by decide)) ⟨trivial, fun h => absurd h (by decide), fun _ => World.grownBy.refl _ _⟩
                      | 7, ho =>
                        obtain rfl := Option.some.inj ho
                        exact StepsTo.passed (passed_of rfl rfl (show a1.eval (.tmp 145) = .bool true from (ht 1 (by kernel_rfl))) (by decide)) ⟨trivial, fun h => absurd h (by decide), fun _ => World.grownBy.refl _ _⟩
                      | 8, ho =>
                        obtain rfl := Option.some.inj ho
                        exact StepsTo.passed (passed_of rfl rfl (show a1.eval (.tmp 145) = .bool true from (ht 1 (by kernel_rfl))) (by decide)) ⟨trivial, fun h => absurd h (by decide), fun _ => World.grownBy.refl _ _⟩
                      | 9, ho =>
                        obtain rfl := Option.some.inj ho
                        exact StepsTo.passed (passed_of rfl rfl (show a1.eval (.tmp 145) = .bool true from (ht 1 (by kernel_rfl))) (by decide)) ⟨trivial, fun h => absurd h (by decide), fun _ => World.grownBy.refl _ _⟩
                      | 10, ho =>
                        obtain rfl := Option.some.inj ho
                        exact StepsTo.passed (passed_of rfl rfl (show a1.eval (.tmp 145) = .bool true from (ht 1 (by kernel_rfl))) (by decide)) ⟨trivial, fun h => absurd h (by decide), fun _ => World.grownBy.refl _ _⟩
                      | 11, ho =>
                        obtain rfl := Option.some.inj ho
                        exact StepsTo.passed (passed_of rfl rfl (show a1.eval (.tmp 145) = .bool true from (ht 1 (by kernel_rfl))) (by decide)) ⟨trivial, fun h => absurd h (by decide), fun _ => World.grownBy.refl _ _⟩
                      | 12, ho =>
                        obtain rfl := Option.some.inj ho
                        exact StepsTo.passed (passed_of rfl rfl (show a1.eval (.tmp 145) = .bool true from (ht 1 (by kernel_rfl))) (by decide)) ⟨trivial, fun h => absurd h (by decide), fun _ => World.grownBy.refl _ _⟩
                      | 13, ho =>
                        obtain rfl := Option.some.inj ho
                        exact StepsTo.passed (passed_of rfl rfl (show a1.eval (.tmp 145) = .bool true from (ht 1 (by kernel_rfl))) (by decide)) ⟨rfl, fun h => absurd h (by decide), fun _ => World.grownBy.refl _ _⟩
                      | 14, ho =>
                        obtain rfl := Option.some.inj ho
                        exact StepsTo.passed (passed_undef rfl rfl (show a1.eval (.tmp 157) = undef from (ht 13 (by kernel_rfl)))) ⟨trivial, fun h => absurd h (by decide), fun _ => World.grownBy.refl _ _⟩
                      | 15, ho =>
                        obtain rfl := Option.some.inj ho
                        exact StepsTo.passed (passed_undef rfl rfl (show a1.eval (.tmp 157) = undef from (ht 13 (by kernel_rfl)))) ⟨trivial, fun h => absurd h (by decide), fun _ => World.grownBy.refl _ _⟩
                      | 16, ho =>
                        obtain rfl := Option.some.inj ho
                        exact StepsTo.passed (passed_undef rfl rfl (show a1.eval (.tmp 157) = undef from (ht 13 (by kernel_rfl)))) ⟨trivial, fun h => absurd h (by decide), fun _ => World.grownBy.refl _ _⟩
                      | 17, ho =>
                        obtain rfl := Option.some.inj ho
                        exact StepsTo.passed (passed_undef rfl rfl (show a1.eval (.tmp 157) = undef from (ht 13 (by kernel_rfl)))) ⟨trivial, fun h => absurd h (by decide), fun _ => World.grownBy.refl _ _⟩
                      | 18, ho =>
                        obtain rfl := Option.some.inj ho
                        exact StepsTo.passed (passed_undef rfl rfl (show a1.eval (.tmp 157) = undef from (ht 13 (by kernel_rfl)))) ⟨trivial, fun h => absurd h (by decide), fun _ => World.grownBy.refl _ _⟩
                      | 19, ho =>
                        obtain rfl := Option.some.inj ho
                        exact StepsTo.passed (passed_undef rfl rfl (show a1.eval (.tmp 157) = undef from (ht 13 (by kernel_rfl)))) ⟨trivial, fun h => absurd h (by decide), fun _ => World.grownBy.refl _ _⟩
                      | 20, ho =>
                        obtain rfl := Option.some.inj ho
                        exact StepsTo.passed (passed_undef rfl rfl (show a1.eval (.tmp 157) = undef from (ht 13 (by kernel_rfl)))) ⟨trivial, fun h => absurd h (by decide), fun _ => World.grownBy.refl _ _⟩
                      | 21, ho =>
                        obtain rfl := Option.some.inj ho
                        exact StepsTo.passed (passed_undef rfl rfl (show a1.eval (.tmp 157) = undef from (ht 13 (by kernel_rfl)))) ⟨trivial, fun h => absurd h (by decide), fun _ => World.grownBy.refl _ _⟩
                      | 22, ho =>
                        obtain rfl := Option.some.inj ho
                        exact StepsTo.passed (passed_undef rfl rfl (show a1.eval (.tmp 157) = undef from (ht 13 (by kernel_rfl)))) ⟨trivial, fun h => absurd h (by decide), fun _ => World.grownBy.refl _ _⟩
                      | 23, ho =>
                        obtain rfl := Option.some.inj ho
                        exact StepsTo.passed (passed_undef rfl rfl (show a1.eval (.tmp 157) = undef from (ht 13 (by kernel_rfl)))) ⟨trivial, fun h => absurd h (by decide), fun _ => World.grownBy.refl _ _⟩
                      | 24, ho =>
                        obtain rfl := Option.some.inj ho
                        exact StepsTo.passed (passed_undef rfl rfl (show a1.eval (.tmp 157) = undef from (ht 13 (by kernel_rfl)))) ⟨trivial, fun h => absurd h (by decide), fun _ => World.grownBy.refl _ _⟩
                      | 25, ho =>
                        obtain rfl := Option.some.inj ho
                        exact StepsTo.passed (passed_of rfl rfl (show a1.eval (.tmp 145) = .bool true from (ht 1 (by kernel_rfl))) (by decide)) ⟨trivial, fun h => absurd h (by decide), fun _ => World.grownBy.refl _ _⟩
                      | 26, ho =>
                        obtain rfl := Option.some.inj ho
                        exact StepsTo.of_run rfl (run_pick rfl (show a1.eval (.tmp 145) = .bool true from (ht 1 (by kernel_rfl))) rfl rfl) ⟨rfl, fun h => absurd h (by decide), fun _ => World.grownBy.refl _ _⟩
                      | 27, ho =>
                        obtain rfl := Option.some.inj ho
                        exact StepsTo.move rfl (.tmp 170) (.inr rfl) ⟨(ht 26 (by kernel_rfl)), fun h => absurd h (by decide), fun _ => World.grownBy.refl _ _⟩
                      | j1 + 28, ho => exact absurd (Array.getElem?_eq_some_iff.1 ho).1 (by simp)
                    intro tm w9 hsz hJ hfr hto
                    rw [act_lit2 tm (show tm.size = 219 from hsz)]
                    simp only [List.range, List.range.loop, List.map_cons, List.map_nil]
                    rw [hfr 0 (by kernel_rfl), hfr 1 (by kernel_rfl), hfr 2 (by kernel_rfl), hfr 3 (by kernel_rfl), hfr 4 (by kernel_rfl), hfr 5 (by kernel_rfl), hfr 6 (by kernel_rfl), hfr 7 (by kernel_rfl), hfr 8 (by kernel_rfl), hfr 9 (by kernel_rfl), hfr 10 (by kernel_rfl), hfr 11 (by kernel_rfl), hfr 12 (by kernel_rfl), hfr 13 (by kernel_rfl), hfr 14 (by kernel_rfl), hfr 15 (by kernel_rfl), hfr 16 (by kernel_rfl), hfr 17 (by kernel_rfl), hfr 18 (by kernel_rfl), hfr 19 (by kernel_rfl), hfr 20 (by kernel_rfl), hfr 21 (by kernel_rfl), hfr 22 (by kernel_rfl), hfr 24 (by kernel_rfl), hfr 25 (by kernel_rfl), hfr 26 (by kernel_rfl), hfr 27 (by kernel_rfl), hfr 28 (by kernel_rfl), hfr 29 (by kernel_rfl), hfr 30 (by kernel_rfl), hfr 31 (by kernel_rfl), hfr 32 (by kernel_rfl), hfr 33 (by kernel_rfl), hfr 34 (by kernel_rfl), hfr 35 (by kernel_rfl), hfr 36 (by kernel_rfl), hfr 37 (by kernel_rfl), hfr 38 (by kernel_rfl), hfr 39 (by kernel_rfl), hfr 40 (by kernel_rfl), hfr 41 (by kernel_rfl), hfr 42 (by kernel_rfl), hfr 43 (by kernel_rfl), hfr 44 (by kernel_rfl), hfr 45 (by kernel_rfl), hfr 46 (by kernel_rfl), hfr 47 (by kernel_rfl), hfr 48 (by kernel_rfl), hfr 49 (by kernel_rfl), hfr 50 (by kernel_rfl), hfr 51 (by kernel_rfl), hfr 52 (by kernel_rfl), hfr 53 (by kernel_rfl), hfr 54 (by kernel_rfl), hfr 55 (by kernel_rfl), hfr 56 (by kernel_rfl), hfr 57 (by kernel_rfl), hfr 58 (by kernel_rfl), hfr 59 (by kernel_rfl), hfr 60 (by kernel_rfl), hfr 61 (by kernel_rfl), hfr 62 (by kernel_rfl), hfr 63 (by kernel_rfl), hfr 64 (by kernel_rfl), hfr 65 (by kernel_rfl), hfr 66 (by kernel_rfl), hfr 67 (by kernel_rfl), hfr 68 (by kernel_rfl), hfr 69 (by kernel_rfl), hfr 70 (by kernel_rfl), hfr 71 (by kernel_rfl), hfr 72 (by kernel_rfl), hfr 73 (by kernel_rfl), hfr 74 (by kernel_rfl), hfr 75 (by kernel_rfl), hfr 76 (by kernel_rfl), hfr 77 (by kernel_rfl), hfr 78 (by kernel_rfl), hfr 79 (by kernel_rfl), hfr 80 (by kernel_rfl), hfr 81 (by kernel_rfl), hfr 82 (by kernel_rfl), hfr 83 (by kernel_rfl), hfr 84 (by kernel_rfl), hfr 85 (by kernel_rfl), hfr 86 (by kernel_rfl), hfr 87 (by kernel_rfl), hfr 88 (by kernel_rfl), hfr 89 (by kernel_rfl), hfr 90 (by kernel_rfl), hfr 91 (by kernel_rfl), hfr 92 (by kernel_rfl), hfr 93 (by kernel_rfl), hfr 94 (by kernel_rfl), hfr 95 (by kernel_rfl), hfr 96 (by kernel_rfl), hfr 97 (by kernel_rfl), hfr 98 (by kernel_rfl), hfr 99 (by kernel_rfl), hfr 100 (by kernel_rfl), hfr 101 (by kernel_rfl), hfr 102 (by kernel_rfl), hfr 103 (by kernel_rfl), hfr 104 (by kernel_rfl), hfr 105 (by kernel_rfl), hfr 106 (by kernel_rfl), hfr 107 (by kernel_rfl), hfr 108 (by kernel_rfl), hfr 109 (by kernel_rfl), hfr 110 (by kernel_rfl), hfr 111 (by kernel_rfl), hfr 112 (by kernel_rfl), hfr 113 (by kernel_rfl), hfr 114 (by kernel_rfl), hfr 115 (by kernel_rfl), hfr 116 (by kernel_rfl), hfr 117 (by kernel_rfl), hfr 118 (by kernel_rfl), hfr 119 (by kernel_rfl), hfr 120 (by kernel_rfl), hfr 121 (by kernel_rfl), hfr 122 (by kernel_rfl), hfr 123 (by kernel_rfl), hfr 124 (by kernel_rfl), hfr 125 (by kernel_rfl), hfr 126 (by kernel_rfl), hfr 127 (by kernel_rfl), hfr 128 (by kernel_rfl), hfr 129 (by kernel_rfl), hfr 130 (by kernel_rfl), hfr 131 (by kernel_rfl), hfr 132 (by kernel_rfl), hfr 133 (by kernel_rfl), hfr 134 (by kernel_rfl), hfr 135 (by kernel_rfl), hfr 136 (by kernel_rfl), hfr 137 (by kernel_rfl), hfr 138 (by kernel_rfl), hfr 139 (by kernel_rfl), hfr 140 (by kernel_rfl), hfr 141 (by kernel_rfl), hfr 142 (by kernel_rfl), hfr 143 (by kernel_rfl), hfr 171 (by kernel_rfl), hfr 172 (by kernel_rfl), hfr 173 (by kernel_rfl), hfr 174 (by kernel_rfl), hfr 175 (by kernel_rfl), hfr 176 (by kernel_rfl), hfr 177 (by kernel_rfl), hfr 178 (by kernel_rfl), hfr 179 (by kernel_rfl), hfr 180 (by kernel_rfl), hfr 181 (by kernel_rfl), hfr 182 (by kernel_rfl), hfr 183 (by kernel_rfl), hfr 184 (by kernel_rfl), hfr 185 (by kernel_rfl), hfr 186 (by kernel_rfl), hfr 187 (by kernel_rfl), hfr 188 (by kernel_rfl), hfr 189 (by kernel_rfl), hfr 190 (by kernel_rfl), hfr 191 (by kernel_rfl), hfr 192 (by kernel_rfl), hfr 193 (by kernel_rfl), hfr 194 (by kernel_rfl), hfr 195 (by kernel_rfl), hfr 196 (by kernel_rfl), hfr 197 (by kernel_rfl), hfr 198 (by kernel_rfl), hfr 199 (by kernel_rfl), hfr 200 (by kernel_rfl), hfr 201 (by kernel_rfl), hfr 202 (by kernel_rfl), hfr 203 (by kernel_rfl), hfr 204 (by kernel_rfl), hfr 205 (by kernel_rfl), hfr 206 (by kernel_rfl), hfr 207 (by kernel_rfl), hfr 208 (by kernel_rfl), hfr 209 (by kernel_rfl), hfr 210 (by kernel_rfl), hfr 211 (by kernel_rfl), hfr 212 (by kernel_rfl), hfr 213 (by kernel_rfl), hfr 214 (by kernel_rfl), hfr 215 (by kernel_rfl), hfr 216 (by kernel_rfl), hfr 217 (by kernel_rfl), hfr 218 (by kernel_rfl)]
                    simp only [Array.getD_eq_getD_getElem?, List.getElem?_toArray, List.getElem?_cons_succ, List.getElem?_cons_zero, Option.getD_some]
                    have t0 : (tm[144]?.getD undef) = .bool true := by have h := hto 0 (by decide); simp only [Array.getD_eq_getD_getElem?] at h; exact h
                    have t1 : (tm[145]?.getD undef) = .bool true := by have h := hto 1 (by decide); simp only [Array.getD_eq_getD_getElem?] at h; exact h
                    have t2 : True := by have h := hto 2 (by decide); simp only [Array.getD_eq_getD_getElem?] at h; exact h
                    have t3 : True := by have h := hto 3 (by decide); simp only [Array.getD_eq_getD_getElem?] at h; exact h
                    have t4 : True := by have h := hto 4 (by decide); simp only [Array.getD_eq_getD_getElem?] at h; exact h
                    have t5 : True := by have h := hto 5 (by decide); simp only [Array.getD_eq_getD_getElem?] at h; exact h
                    have t6 : True := by have h := hto 6 (by decide); simp only [Array.getD_eq_getD_getElem?] at h; exact h
                    have t7 : True := by have h := hto 7 (by decide); simp only [Array.getD_eq_getD_getElem?] at h; exact h
                    have t8 : True := by have h := hto 8 (by decide); simp only [Array.getD_eq_getD_getElem?] at h; exact h
                    have t9 : True := by have h := hto 9 (by decide); simp only [Array.getD_eq_getD_getElem?] at h; exact h
                    have t10 : True := by have h := hto 10 (by decide); simp only [Array.getD_eq_getD_getElem?] at h; exact h
                    have t11 : True := by have h := hto 11 (by decide); simp only [Array.getD_eq_getD_getElem?] at h; exact h
                    have t12 : True := by have h := hto 12 (by decide); simp only [Array.getD_eq_getD_getElem?] at h; exact h
                    have t13 : (tm[157]?.getD undef) = undef := by have h := hto 13 (by decide); simp only [Array.getD_eq_getD_getElem?] at h; exact h
                    have t14 : True := by have h := hto 14 (by decide); simp only [Array.getD_eq_getD_getElem?] at h; exact h
                    have t15 : True := by have h := hto 15 (by decide); simp only [Array.getD_eq_getD_getElem?] at h; exact h
                    have t16 : True := by have h := hto 16 (by decide); simp only [Array.getD_eq_getD_getElem?] at h; exact h
                    have t17 : True := by have h := hto 17 (by decide); simp only [Array.getD_eq_getD_getElem?] at h; exact h
                    have t18 : True := by have h := hto 18 (by decide); simp only [Array.getD_eq_getD_getElem?] at h; exact h
                    have t19 : True := by have h := hto 19 (by decide); simp only [Array.getD_eq_getD_getElem?] at h; exact h
                    have t20 : True := by have h := hto 20 (by decide); simp only [Array.getD_eq_getD_getElem?] at h; exact h
                    have t21 : True := by have h := hto 21 (by decide); simp only [Array.getD_eq_getD_getElem?] at h; exact h
                    have t22 : True := by have h := hto 22 (by decide); simp only [Array.getD_eq_getD_getElem?] at h; exact h
                    have t23 : True := by have h := hto 23 (by decide); simp only [Array.getD_eq_getD_getElem?] at h; exact h
                    have t24 : True := by have h := hto 24 (by decide); simp only [Array.getD_eq_getD_getElem?] at h; exact h
                    have t25 : True := by have h := hto 25 (by decide); simp only [Array.getD_eq_getD_getElem?] at h; exact h
                    have t26 : (tm[170]?.getD undef) = .bool true := by have h := hto 26 (by decide); simp only [Array.getD_eq_getD_getElem?] at h; exact h
                    have t27 : (tm[23]?.getD undef) = .bool true := by have h := hto 27 (by decide); simp only [Array.getD_eq_getD_getElem?] at h; exact h
                    clear hto
                    generalize tm[23]?.getD undef = y23 at *
                    generalize tm[144]?.getD undef = y144 at *
                    generalize tm[145]?.getD undef = y145 at *
                    generalize tm[146]?.getD undef = y146 at *
                    generalize tm[147]?.getD undef = y147 at *
                    generalize tm[148]?.getD undef = y148 at *
                    generalize tm[149]?.getD undef = y149 at *
                    generalize tm[150]?.getD undef = y150 at *
                    generalize tm[151]?.getD undef = y151 at *
                    generalize tm[152]?.getD undef = y152 at *
                    generalize tm[153]?.getD undef = y153 at *
                    generalize tm[154]?.getD undef = y154 at *
                    generalize tm[155]?.getD undef = y155 at *
                    generalize tm[156]?.getD undef = y156 at *
                    generalize tm[157]?.getD undef = y157 at *
                    generalize tm[158]?.getD undef = y158 at *
                    generalize tm[159]?.getD undef = y159 at *
                    generalize tm[160]?.getD undef = y160 at *
                    generalize tm[161]?.getD undef = y161 at *
                    generalize tm[162]?.getD undef = y162 at *
                    generalize tm[163]?.getD undef = y163 at *
                    generalize tm[164]?.getD undef = y164 at *
                    generalize tm[165]?.getD undef = y165 at *
                    generalize tm[166]?.getD undef = y166 at *
                    generalize tm[167]?.getD undef = y167 at *
                    generalize tm[168]?.getD undef = y168 at *
                    generalize tm[169]?.getD undef = y169 at *
                    generalize tm[170]?.getD undef = y170 at *
                    clear hfr hsz tm
                    obtain rfl := t27
                    have hb9 := grown_below7 hJ
                    have HB9 : Hid (Below wo.heap.size wo w9) := HBI.out.trans (hb9.mono HBI.out.size)
                    have HK9 : Hid (Below w.heap.size w w9 ∧ w9.heap[g2]? = some (.cells #[.slice ba2 bn2 bc2, .slice ra2 rn2 rc2] 32 (0, 0)) ∧ Rs w9 (some ⟨b1, o1, none⟩) nn nc outs ∧ Rs w9 ra2 rn2 rc2 ys2) := ⟨HKI.out.1.trans (hb9.mono HKI.out.1.size), (hb9.block _ (Array.getElem?_eq_some_iff.1 HKI.out.2.1).1).trans HKI.out.2.1, HKI.out.2.2.1.below hb9 (Nat.le_refl _), HKI.out.2.2.2.below hb9 (Nat.le_refl _)⟩
                    clear t0 t1 t2 t3 t4 t5 t6 t7 t8 t9 t10 t11 t12 t13 t14 t15 t16 t17 t18 t19 t20 t21 t22 t23 t24 t25 t26 hJ hb9
                    go_wp2
                    go_roundw
                    case rel => exact ⟨q + 1, true, by omega, by go_num, rfl, HRES.out, HK9.out, HB9.out⟩
                    case measure => simp [intOf]; omega
                · obtain rfl : q = nn := by omega
                  obtain rfl : h = true := by
                    have h1 := HH.out
                    rw [← HNN.out, Spec.hasT_all HTW.out] at h1
                    exact h1.symm
                  have hA1 := HA1.out
                  have hA2 := HA2.out
                  have hA3 := HA3.out
                  go_wp2
                  go_roundw
                  case rel => exact ⟨jr + 1, by omega, by go_num, HKI.out⟩
                  case measure => simp [intOf]; omega
            · obtain rfl : jr = nn := by omega
              go_wp2
              go_ret
              exact ⟨rfl, HK.out.1⟩

/-! ### THE ROW's STEP: WRITTEN OUT: LEAVE IT -/
set_option maxRecDepth 100000 in
theorem lifted (os : Os) (started : os.Started) (H : Type) (enc : TypeId × Value → H) :
    ReturnsInHanded {} Try.checked os 5 .any (Rows.specBothSpec.pre6 enc Try.prog Try.f5 Rows.specBothRow.domain false) (Rows.specBothSpec.post enc Try.prog Try.f5 false true false false) := by
  refine returnsInHanded_of_change (C := Try.checked) own started (by kernel_rfl) Try.func5
    (ChangeSpec.witness6 (enc := enc) (C := Try.checked) false ⟨#[], #[.slice none 0 0, .int .u64 0, .int .u8 0, .bool false], []⟩ 8 (by kernel_rfl) (by kernel_rfl) (by kernel_rfl) (by kernel_rfl)) ?_
  intro W base args ds gs before hval0 hW hcnd _
  have hval : ∀ (j : Nat) t v, Try.f5.params[j]? = some t → args[j]? = some v → Value.okWide Try.prog W .any base t v := hval0
  have hW' := hW
  obtain ⟨p, q, hA0, hV, rfl, hfz, hnd⟩ := hW
  have hA : DataW.TrodAll enc Try.prog W 0 (fun _ => true) true Try.f5.params.toList args.toList ds p := hA0
  rw [Try.params5] at hA hval
  obtain ⟨v0, vs0, d0, ds0, p0, q0, hargs, rfl, rfl, h0, r0⟩ := trodAll_cons hA
  obtain ⟨v1, vs1, d1, ds1, p1, q1, rfl, rfl, rfl, h1, r1⟩ := trodAll_cons r0
  obtain ⟨v2, vs2, d2, ds2, p2, q2, rfl, rfl, rfl, h2, r2⟩ := trodAll_cons r1
  obtain ⟨v3, vs3, d3, ds3, p3, q3, rfl, rfl, rfl, h3, r3⟩ := trodAll_cons r2
  obtain ⟨rfl, rfl, rfl⟩ := trodAll_nil r3
  obtain rfl : args = #[v0, v1, v2, v3] := by cases args; simp_all
  obtain ⟨rfl, rfl⟩ := trodVars_none hV
  obtain ⟨a0, len0, cap0, rfl⟩ := okWide_slice Try.underlying23 (hval 0 23 v0 rfl rfl)
  have k0 := h0
  have lt0 : ∀ x ∈ p0, x.block < W.heap.size := by obtain ⟨m, hm⟩ := k0; exact DataW.trod_lt m _ _ _ hm
  obtain ⟨z0, w0⟩ : ∃ zs, IsRow .i64 W a0 len0 cap0 zs := by
    obtain ⟨fuel, hf⟩ := h0
    rcases open_ints Try.underlying23 Try.underlying3 (by kernel_rfl) hf with ⟨hcs, _⟩ | ⟨x, l, c, zs, hcs, _, hl, hm, hz, _, hcell, hwz⟩
    · simp [Value.cells] at hcs
      obtain ⟨rfl, rfl, rfl⟩ := hcs
      exact ⟨[], .inl ⟨rfl, rfl, rfl, rfl⟩⟩
    · simp [Value.cells] at hcs
      obtain ⟨rfl, rfl, rfl⟩ := hcs
      exact ⟨zs, .inr ⟨_, rfl, hl, hm, by simpa using hz, hcell, hwz⟩⟩
  obtain ⟨a1, rfl, rfl, rfl, w1⟩ := open_int Try.underlying24 (hval 1 24 v1 rfl rfl) h1
  obtain ⟨a2, rfl, rfl, rfl, w2⟩ := open_int Try.underlying5 (hval 2 5 v2 rfl rfl) h2
  obtain ⟨a3, rfl, rfl, rfl⟩ := open_bool Try.underlying4 (hval 3 4 v3 rfl rfl) h3
  clear hA0 hval0
  refine (walk a0 len0 cap0 z0 a1 a2 a3 W w0 w1 w2).mono fun e W' ⟨he, bel⟩ => ?_
  subst he
  exact ⟨_, rfl, _, _, _, [], _, [], hW', trodAll_mk1 (shut_bool Try.underlying4 _), (trodAll_cons_mk (Below.trod laidOut (by kernel_rfl) (of_decide_eq_true (by kernel_rfl)) k0 bel lt0) (trodAll_cons_mk (shut_int Try.underlying24 w1) (trodAll_cons_mk (shut_int Try.underlying5 w2) (trodAll_cons_mk (shut_bool Try.underlying4 _) trodAll_mk0)))), rfl, bel.frame _, fun h => by cases h⟩

theorem over : Rows.specBothRow.holds Try.pinned (OpenSpec.ofChange Rows.specBothSpec) :=
  OpenClaim.holds_of_wide 5 Try.f5 rfl rfl rfl rfl rfl rfl rfl ⟨rfl, rfl, rfl, rfl, rfl⟩ rfl rfl rfl rfl rfl (by kernel_rfl) Try.func5 (by kernel_rfl)
    (of_decide_eq_true (by kernel_rfl)) (by unfold Func.isWrapper; first | (rw [if_pos (by decide +kernel)]; kernel_rfl) | (rw [if_neg (by decide +kernel)]; exact ⟨rfl, rfl⟩))
    (fun os started H enc _ => lifted os started H enc)

/-- ████ THE STATEMENT ████ -/
theorem proved : Rows.SpecBothSaid := over
#print axioms proved
end Go.Proofs.Ytdeicfdbjmpliaa.specBoth
