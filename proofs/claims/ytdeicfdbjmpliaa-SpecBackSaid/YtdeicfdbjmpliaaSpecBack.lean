/- For every line and every rule, SpecBack answers true, and turns nothing that was there. No condition. -/
import Derived.Test.YtdeicfdbjmpliaaRows
import Derived.Test.YtdeicfdbjmpliaaSpecSteps3
import Derived.Test.YtdeicfdbjmpliaaRuleOpen
import Derived.WalkKit
import Derived.ProofKit
import Derived.OpenShut
import Derived.ShutString
import Derived.ChangeOld
import Derived.Below
import Derived.Deep.Matrix
import Derived.SizedLaws
namespace Go.Proofs.Ytdeicfdbjmpliaa.specBack
open Go.ChangeShapes Go.WideShapes Go.ChangeAt Go.RowKit
set_option linter.unusedVariables false

theorem own : ownKnob Try.prog.godebug = none := by kernel_rfl
theorem laidOut : laidOutB Try.prog = true := by kernel_rfl

/-- a slice of integers that came in -/
def IsRow (k : IntKind) (w : World) (a : Option Addr) (len cap : Nat) (zs : List Int) : Prop :=
  (a = none ∧ len = 0 ∧ cap = 0 ∧ zs = []) ∨
  ∃ x, a = some x ∧ len ≤ cap ∧ cap ≤ maxLen ∧ zs.length = cap ∧ (∀ i, i < zs.length → w.cell? (x.add i) = some (.int k (zs.getD i 0))) ∧ ∀ n ∈ zs, (Lit.int k n).wf = true

/-! ### STEP 1: the walk -/
set_option maxHeartbeats 6400000 in
set_option maxRecDepth 100000 in
theorem walk (a0 : Option Addr) (len0 cap0 : Nat) (z0 : List Int) (x1 : Rw) (w : World) (w0 : IsRow .u8 w a0 len0 cap0 z0) (w1 : x1.Good w) :
    Calls Try.prog 4 #[.slice a0 len0 cap0, x1.v] w fun e w' => e = .returned (.bool true) ∧ Below w.heap.size w w' := by
  have hn00 : a0 = none → cap0 = 0 := by
    rcases w0 with ⟨_, _, h, _⟩ | ⟨x, h, _⟩
    · exact fun _ => h
    · intro h'; rw [h] at h'; cases h'
  have HN0 := Lib.hid hn00
  clear hn00
  have hs0 := Sl.of_row w0
  generalize z0.take len0 = xs at hs0
  have hcm0 := hs0.2.2.1
  have hnc0 := hs0.2.1
  unfold maxLen at hcm0
  have HS := Lib.hid hs0
  clear hs0 w0
  obtain ⟨la, ln, lc, L, ra, rn, rc, R, C⟩ := x1
  have HX := Lib.hid w1
  clear w1
  simp only [Rw.v, Rw.l, Rw.rt, Rw.c]
  have HI : Hid ((Try.prog.info? 32).map (·.size) = some 2) := info_spec
  have HIR : Hid ((Try.prog.info? 26).map (·.size) = some (#[Value.slice la ln lc, Value.slice ra rn rc, Value.int .u64 C]).size) := by show _ = _; kernel_rfl
  have hmx : Try.prog.follows .mixedOrders = true := by kernel_rfl
  have HMX := Lib.hid hmx
  have HBX : Hid (∀ o, Below w.heap.size w (w.alloc o)) := fun o => (Below.refl _ w).alloc (Nat.le_refl _) o
  have HNW : Hid (∀ o, (w.alloc o).heap[w.heap.size]? = some o) := fun o => heap_alloc_new w o
  have HSZ : Hid (∀ o, (w.alloc o).heap.size = w.heap.size + 1) := fun o => World.size_alloc w o
  clear hmx
  have hor : 1000 < len0 ∨ len0 ≤ 1000 := by omega
  have hib : (1000 < len0 → (1000 : Int) < (len0 : Int)) ∧ (len0 ≤ 1000 → ¬ (1000 : Int) < (len0 : Int)) := ⟨fun h => by omega, fun h => by omega⟩
  rcases hor with g0 | g0
  · have hi0 := hib.1 g0
    clear hib
    go_enter Try.func4, Try.ntmps4
    go_wp2_with fail
    refine (awake_any _).mono ?_
    rintro e v1 ⟨rfl, B1⟩
    have HB1 : Hid (Below w.heap.size w v1) := (HBX.out _).trans (B1.mono (by simp))
    clear B1
    go_wp2
    go_ret
    exact ⟨rfl, HB1.out⟩
  have hi0 := hib.2 g0
  clear hib
  go_enter Try.func4, Try.ntmps4
  go_wp2_with fail
  refine (awake_any _).mono ?_
  rintro e v1 ⟨rfl, B1⟩
  have HB1 : Hid (Below w.heap.size w v1) := (HBX.out _).trans (B1.mono (by simp))
  have H31 : Hid (v1.heap[w.heap.size]? = some (.cells #[.slice la ln lc, .slice ra rn rc, .int .u64 C] 26 (0, 0))) := (B1.block _ (by rw [HSZ.out]; exact Nat.lt_succ_self _)).trans (HNW.out _)
  have HX1 : Hid (Rw.Good v1 ⟨la, ln, lc, L, ra, rn, rc, R, C⟩) := HX.out.below HB1.out (Nat.le_refl _)
  have S1 := Lib.hid (HS.out.below HB1.out (Nat.le_refl _))
  clear B1 HX HS HBX HNW HSZ
  go_wp2_with (refine wpList_load_row_w (by rfl) 26 (.tmp 3) (by rfl) w.heap.size (by rfl) 26 #[.slice la ln lc, .slice ra rn rc, .int .u64 C] (0, 0) _ H31.out Try.underlying26 (by rfl) HIR.out ?_)
  refine (rfew_any _ 1 1 [⟨la, ln, lc, L, ra, rn, rc, R, C⟩] 1 (by omega) _ (Rs.newc [⟨la, ln, lc, L, ra, rn, rc, R, C⟩] (by intro x hx; rw [List.mem_singleton.1 hx]; exact HX1.out) (by simp [maxLen]) rfl rfl rfl)).mono ?_
  rintro e v2 ⟨he | ⟨he, hsh, _⟩, hw2⟩
  · subst he
    obtain rfl := hw2.symm
    have HB2 : Hid (∀ o, Below w.heap.size w (v1.alloc o)) := fun o => HB1.out.alloc HB1.out.size o
    go_wp2
    go_ret
    exact ⟨rfl, HB2.out _⟩
  subst he
  have hb12 : Below v1.heap.size v1 v2 := by rw [hw2]; exact (Below.refl _ v1).alloc (Nat.le_refl _) _
  have HB2 : Hid (Below w.heap.size w v2) := HB1.out.trans (hb12.mono HB1.out.size)
  have H32 : Hid (v2.heap[w.heap.size]? = some (.cells #[.slice la ln lc, .slice ra rn rc, .int .u64 C] 26 (0, 0))) := (hb12.block _ (Array.getElem?_eq_some_iff.1 H31.out).1).trans H31.out
  have HX2 : Hid (Rw.Good v2 ⟨la, ln, lc, L, ra, rn, rc, R, C⟩) := HX1.out.below hb12 (Nat.le_refl _)
  have S2 := Lib.hid (S1.out.below hb12 (Nat.le_refl _))
  have hlr : ln ≤ 100 ∧ rn ≤ 100 := hsh _ (List.mem_singleton.2 rfl)
  have HLR : Hid (L.length ≤ 1000 ∧ R.length ≤ 1000) := by
    have h1 : L.length = ln := HX1.out.1.1
    have h2 : R.length = rn := HX1.out.2.1.1
    exact ⟨by omega, by omega⟩
  have HLR1 : Hid (L.length ≤ 100 ∧ R.length ≤ 100) := by
    have h1 : L.length = ln := HX1.out.1.1
    have h2 : R.length = rn := HX1.out.2.1.1
    exact ⟨by omega, by omega⟩
  clear hw2 hb12 hsh hlr H31 HX1 S1
  obtain ⟨s, hsr⟩ : ∃ s, Spec.read xs = s := ⟨_, rfl⟩
  have HFN : Hid (Spec.Fine s) := by rw [← hsr]; exact Spec.fine_read xs
  obtain ⟨ft, hft⟩ : ∃ q, Spec.fit ⟨L, R, C⟩ = q := ⟨_, rfl⟩
  obtain ⟨out, hout⟩ : ∃ o, (if ft = true then Spec.write ⟨L, R, C⟩ else []) = o := ⟨_, rfl⟩
  obtain ⟨er, her⟩ : ∃ o : Int, (if ft = true then 0 else 60) = o := ⟨_, rfl⟩
  have HOL : Hid (out.length ≤ 1000) := by
    show out.length ≤ 1000
    rw [← hout]
    split
    · exact write_len HLR1.out.1 HLR1.out.2 HX2.out.2.2.1 HX2.out.2.2.2
    · simp
  have HSR := Lib.hid hsr
  have HFT := Lib.hid hft
  have HOUT := Lib.hid hout
  have HER := Lib.hid her
  clear hsr hft hout her
  go_wp2_with (refine wpList_load_row_w (by rfl) 26 (.tmp 3) (by rfl) w.heap.size (by rfl) 26 #[.slice la ln lc, .slice ra rn rc, .int .u64 C] (0, 0) _ H32.out Try.underlying26 (by rfl) HIR.out ?_)
  refine (write7_is ⟨la, ln, lc, L, ra, rn, rc, R, C⟩ ft out er v2 HX2.out HLR.out HFT.out HOUT.out HER.out).mono ?_
  rintro e v3 ⟨wa, wn, wc, rfl, hwn, hw, hwnil, hb3⟩
  have HB3 : Hid (Below w.heap.size w v3) := HB2.out.trans (hb3.mono HB2.out.size)
  have H33 := Lib.hid ((hb3.block _ (Array.getElem?_eq_some_iff.1 H32.out).1).trans H32.out)
  have HX3 := Lib.hid (HX2.out.below hb3 (Nat.le_refl _))
  have S3 := Lib.hid (S2.out.below hb3 (Nat.le_refl _))
  have HSW := Lib.hid hw
  have HWN := Lib.hid hwnil
  have HWL : Hid (wn = out.length) := hwn
  clear hwn hw hwnil hb3 H32 HX2 S2 HB2
  cases ft
  · obtain rfl : er = 60 := by have h := HER.out; rw [if_neg (by decide)] at h; exact h.symm
    obtain rfl : out = [] := by have h := HOUT.out; rw [if_neg (by decide)] at h; exact h.symm
    obtain rfl : wn = 0 := HWL.out
    go_wp2_with fail
    refine (read7_is wa 0 wc [] (Spec.read []) v3 HSW.out HWN.out (by omega) rfl).mono ?_
    rintro e v4 ⟨ba1, bn1, bc1, ra1, rn1, rc1, xs1, rfl, _, _, _, _, _, hb4⟩
    have HB4 : Hid (Below w.heap.size w v4) := HB3.out.trans (hb4.mono HB3.out.size)
    have h34 := (hb4.block _ (Array.getElem?_eq_some_iff.1 H33.out).1).trans H33.out
    have H34a : Hid (∀ o, (v4.alloc o).heap[w.heap.size]? = some (.cells #[.slice la ln lc, .slice ra rn rc, .int .u64 C] 26 (0, 0))) := fun o => ((World.grownBy_alloc v4 o none).block _ (Array.getElem?_eq_some_iff.1 h34).1 (by simp)).trans h34
    have HX4 := Lib.hid (HX3.out.below hb4 (Nat.le_refl _))
    have S4 := Lib.hid (S3.out.below hb4 (Nat.le_refl _))
    clear hb4 h34 H33 HX3 S3 HB3
    go_wp2_with (refine wpList_load_row_w (by rfl) 26 (.tmp 3) (by rfl) w.heap.size (by rfl) 26 #[.slice la ln lc, .slice ra rn rc, .int .u64 C] (0, 0) _ (H34a.out _) Try.underlying26 (by rfl) HIR.out ?_)
    refine (fit7_is ⟨la, ln, lc, L, ra, rn, rc, R, C⟩ false _ (HX4.out.alloc _) HFT.out).mono ?_
    rintro e v5 ⟨rfl, hb5⟩
    have h45 : Below v4.heap.size v4 v5 := ((Below.refl v4.heap.size v4).alloc (Nat.le_refl _) _).trans (hb5.mono (by simp))
    have HB5 : Hid (Below w.heap.size w v5) := HB4.out.trans (h45.mono HB4.out.size)
    have S5 := Lib.hid (S4.out.below h45 (Nat.le_refl _))
    clear h45 hb5 HB4 S4 HX4 H34a HSW HWN HWL HOUT HER HLR HLR1 HOL
    go_wp2_with fail
    refine (read7_is a0 len0 cap0 xs s _ S5.out HN0.out (by omega) HSR.out).mono ?_
    rintro e v6 ⟨ba, bn, bc, ra', rn', rc', ys, rfl, hbs, _, hrs, hru, _, hb6⟩
    have HB6 : Hid (Below w.heap.size w v6) := HB5.out.trans (hb6.mono HB5.out.size)
    have HBN : Hid (bn = s.base.length) := hbs.1.symm
    have HRN : Hid (rn' = s.rules.length) := rs_len hrs hru
    have HRU := Lib.hid hru
    have hrcm := hrs.2.2.1
    unfold maxLen at hrcm
    have hrnc := hrs.2.1
    have HRS := Lib.hid hrs
    obtain ⟨E, hE⟩ : ∃ E, s.e = E := ⟨_, rfl⟩
    rw [hE]
    have HE := Lib.hid hE
    clear hE hbs hrs hru hb6 S5 HB5
    go_wp2
    go_loopw [13] (fun ix wr => ∃ i : Nat, i ≤ rn' ∧ ix = .int .i64 (i : Int) ∧ Hid (Below w.heap.size w wr) ∧ Hid (wr.heap[v6.heap.size]? = some (.cells #[.slice ba bn bc, .slice ra' rn' rc'] 32 (0, 0))) ∧ Hid (Rs wr ra' rn' rc' ys)) (fun ix _ => rn' - (intOf ix).toNat)
    case atStart => exact ⟨0, Nat.zero_le _, rfl, HB6.out.alloc HB6.out.size _, heap_alloc_new v6 _, HRS.out.alloc _⟩
    case round =>
      obtain ⟨i, hi, rfl, HB, HP, HR⟩ := hrel
      have hcy1 : wr.cell? ⟨v6.heap.size, 1, none⟩ = some (.slice ra' rn' rc') := by simp [World.cell?, HP.out]
      by_cases hlt : i < rn'
      · obtain ⟨b1, o1, ka, kn, kc, LL, ja, jn, jc, RR, C2, hra, hb1, hx1, hx2, hx3, hsl, hsr2, hC0, hC1, hz1⟩ := HR.out.one i hlt
        subst hra
        have HF : Hid (Spec.fit ⟨LL, RR, C2⟩ = true) := by
          have h1 := HFN.out.1
          have h2 := ruls_in (xs := ys) (i := i) (by rw [HR.out.1]; exact hlt)
          rw [HRU.out, hz1] at h2
          exact h1 _ h2
        have hsh : LL.length ≤ 8 ∧ RR.length ≤ 8 := fit_short HF.out
        have HSH : Hid (LL.length ≤ 1000 ∧ RR.length ≤ 1000) := ⟨by omega, by omega⟩
        obtain ⟨o2, ho2⟩ : ∃ o, Spec.write ⟨LL, RR, C2⟩ = o := ⟨_, rfl⟩
        have HO2L : Hid (o2.length ≤ 1000) := by
          show o2.length ≤ 1000
          rw [← ho2]
          exact write_len (show LL.length ≤ 100 by omega) (show RR.length ≤ 100 by omega) hC0 hC1
        have HRW : Hid (Spec.read o2 = ⟨0, [], [⟨LL, RR, C2⟩]⟩) := by
          show Spec.read o2 = _
          rw [← ho2]; exact Spec.read_write HF.out hC0
        have HO2 : Hid ((if true = true then Spec.write ⟨LL, RR, C2⟩ else []) = o2) := by
          show (if true = true then Spec.write ⟨LL, RR, C2⟩ else []) = o2
          rw [if_pos rfl]; exact ho2
        have HGX : Hid ((⟨ka, kn, kc, LL, ja, jn, jc, RR, C2⟩ : Rw).Good wr) := ⟨hsl, hsr2, hC0, hC1⟩
        have HPI : Hid (ruls ((ys.drop i).take 1) = [⟨LL, RR, C2⟩]) := ruls_piece (by rw [HR.out.1]; exact hlt) (by rw [hz1]; rfl)
        have HBL := Lib.hid hb1
        have HC1a := Lib.hid hx1
        have HC2a := Lib.hid hx2
        have HC3a := Lib.hid hx3
        have hlti : (i : Int) < (rn' : Int) := by omega
        clear hz1 hsh ho2 hsl hsr2
        go_wp2_with fail
        refine (write7_is ⟨ka, kn, kc, LL, ja, jn, jc, RR, C2⟩ true o2 0 _ HGX.out HSH.out HF.out HO2.out rfl).mono ?_
        rintro e q1 ⟨wa2, wn2, wc2, rfl, hwn2, hw2, hwnil2, hbq1⟩
        have HQ1 : Hid (Below wr.heap.size wr q1) := hbq1
        have HW2 := Lib.hid hw2
        have HW2N := Lib.hid hwnil2
        have HW2L : Hid (wn2 = o2.length) := hwn2
        clear hx1 hx2 hx3 hbq1 hw2 hwnil2 hwn2 hcy1 hb1
        go_wp2_with fail
        refine (read7_is wa2 wn2 wc2 o2 ⟨0, [], [⟨LL, RR, C2⟩]⟩ q1 HW2.out HW2N.out (by rw [HW2L.out]; exact HO2L.out) HRW.out).mono ?_
        rintro e q2 ⟨za, zn, zc, ea, en, ec, xs2, rfl, _, _, hrs2, hru2, _, hbq2⟩
        have hst : Below wr.heap.size wr q2 := HQ1.out.trans (hbq2.mono HQ1.out.size)
        have hstW : Below wr.heap.size wr (q2.alloc (.cells #[.slice za zn zc, .slice ea en ec] 32 (0, 0))) := hst.alloc hst.size _
        have HPY : Hid ((q2.alloc (.cells #[.slice za zn zc, .slice ea en ec] 32 (0, 0))).drew.heap[v6.heap.size]? = some (.cells #[.slice ba bn bc, .slice (some ⟨b1, o1, none⟩) rn' rc'] 32 (0, 0))) := (hstW.block _ (Array.getElem?_eq_some_iff.1 HP.out).1).trans HP.out
        have HPZ : Hid ((q2.alloc (.cells #[.slice za zn zc, .slice ea en ec] 32 (0, 0))).drew.heap[q2.heap.size]? = some (.cells #[.slice za zn zc, .slice ea en ec] 32 (0, 0))) := heap_alloc_new q2 _
        have HX9 := Lib.hid (HGX.out.below hstW (Nat.le_refl _))
        have HR9 := Lib.hid (HR.out.below hstW (Nat.le_refl _))
        have HR2 := Lib.hid (hrs2.alloc (.cells #[.slice za zn zc, .slice ea en ec] 32 (0, 0)))
        have HRU2 := Lib.hid hru2
        have HC1 := Lib.hid ((hstW.cell (p := ⟨b1, o1 + i * 3, none⟩) HBL.out).trans HC1a.out)
        have HC2 := Lib.hid ((hstW.cell (p := ⟨b1, o1 + i * 3 + 1, none⟩) HBL.out).trans HC2a.out)
        have HC3 := Lib.hid ((hstW.cell (p := ⟨b1, o1 + i * 3 + 2, none⟩) HBL.out).trans HC3a.out)
        have HBL9 : Hid (b1 < (q2.alloc (.cells #[.slice za zn zc, .slice ea en ec] 32 (0, 0))).heap.size) := Nat.lt_of_lt_of_le HBL.out hstW.size
        have HBW : Hid (Below w.heap.size w (q2.alloc (.cells #[.slice za zn zc, .slice ea en ec] 32 (0, 0)))) := HB.out.trans (hstW.mono HB.out.size)
        clear hst hstW hrs2 hru2 hbq2 HC1a HC2a HC3a HBL HP HB HR HGX HQ1 HW2 HW2N HW2L HO2 HO2L HRW HSH
        go_wp2_with fail
        refine wp_region_told2 HMX.out 27 [(98, 98), (99, 99), (100, 100), (101, 101), (102, 102), (103, 103), (104, 104), (105, 105), (106, 106), (107, 107), (108, 108), (109, 109), (110, 110), (111, 111), (112, 112), (113, 113), (114, 114), (115, 115), (116, 116), (117, 117), (118, 118), (119, 119), (120, 120), (121, 121), (122, 122), (123, 123), (124, 124)]
          (fun (j : Nat) (v u : Value) (w0 : World) => match j with
            | 0 => v = .int .i64 0
            | 1 => v = .bool false
            | 2 => v = .bool false
            | 3 => v = .int .i64 0
            | 4 => v = .bool false
            | 5 => v = .bool false
            | 6 => v = .bool false
            | 7 => v = .pointer (some ⟨v6.heap.size, 1, none⟩)
            | 8 => v = .slice (some ⟨b1, o1, none⟩) rn' rc'
            | 9 => v = .int .i64 (i : Int)
            | 10 => v = .pointer (some ⟨b1, o1 + i * 3, none⟩)
            | 11 => v = .agg #[Value.slice ka kn kc, Value.slice ja jn jc, Value.int .u64 C2]
            | 12 => v = .bool true
            | 13 => v = .bool false
            | 14 => v = .bool false
            | 15 => v = .bool false
            | 16 => v = .pointer (some ⟨q2.heap.size, 1, none⟩)
            | 17 => v = .slice ea en ec
            | 18 => v = .pointer (some ⟨v6.heap.size, 1, none⟩)
            | 19 => v = .slice (some ⟨b1, o1, none⟩) rn' rc'
            | 20 => v = .int .i64 (i : Int)
            | 21 => v = .int .i64 (i : Int)
            | 22 => v = .int .i64 ((i : Int) + 1)
            | 23 => v = .slice (some ⟨b1, o1 + i * 3, none⟩) 1 (rc' - i)
            | 24 => v = .bool true
            | 25 => v = .bool false
            | 26 => v = .bool false
            | _ => True)
          (fun W => ((q2.alloc (.cells #[.slice za zn zc, .slice ea en ec] 32 (0, 0)))).drew.grownBy W none) (fun _ _ _ => False) (by kernel_rfl) (by kernel_rfl) (World.grownBy.refl _ _) (fun _ _ h1 h2 => h1.trans h2) (fun _ _ _ _ h => h.elim) ?_ ?_ ?_ ?_
        · intro j v u w0 w' h hg
          match j, h with
          | 0, h => exact h
          | 1, h => exact h
          | 2, h => exact h
          | 3, h => exact h
          | 4, h => exact h
          | 5, h => exact h
          | 6, h => exact h
          | 7, h => exact h
          | 8, h => exact h
          | 9, h => exact h
          | 10, h => exact h
          | 11, h => exact h
          | 12, h => exact h
          | 13, h => exact h
          | 14, h => exact h
          | 15, h => exact h
          | 16, h => exact h
          | 17, h => exact h
          | 18, h => exact h
          | 19, h => exact h
          | 20, h => exact h
          | 21, h => exact h
          | 22, h => exact h
          | 23, h => exact h
          | 24, h => exact h
          | 25, h => exact h
          | 26, h => exact h
          | j + 27, h => exact h
        · intro j v u a0 w0 w' hne h hr
          match j, hne, h with
          | 0, hne, h => exact h
          | 1, hne, h => exact h
          | 2, hne, h => exact h
          | 3, hne, h => exact h
          | 4, hne, h => exact h
          | 5, hne, h => exact h
          | 6, hne, h => exact h
          | 7, hne, h => exact h
          | 8, hne, h => exact h
          | 9, hne, h => exact h
          | 10, hne, h => exact h
          | 11, hne, h => exact h
          | 12, hne, h => exact h
          | 13, hne, h => exact h
          | 14, hne, h => exact h
          | 15, hne, h => exact h
          | 16, hne, h => exact h
          | 17, hne, h => exact h
          | 18, hne, h => exact h
          | 19, hne, h => exact h
          | 20, hne, h => exact h
          | 21, hne, h => exact h
          | 22, hne, h => exact h
          | 23, hne, h => exact h
          | 24, hne, h => exact h
          | 25, hne, h => exact h
          | 26, hne, h => exact h
          | j + 27, _, h => exact h
        · intro i1 o ho a1 w1 hJ hw ht
          match i1, ho with
          | 0, ho =>
            obtain rfl := Option.some.inj ho
            exact StepsTo.move rfl (.tmp 15) (.inl rfl) ⟨(hw 15 (by kernel_rfl)), fun h => absurd h (by decide), fun _ => World.grownBy.refl _ _⟩
          | 1, ho =>
            obtain rfl := Option.some.inj ho
            exact StepsTo.of_run rfl (run_neqE rfl (show a1.eval (.tmp 98) = .int .i64 0 from (ht 0 (by kernel_rfl))) (show a1.eval (.const (.int .i64 0)) = .int .i64 0 from rfl)) ⟨rfl, fun h => absurd h (by decide), fun _ => World.grownBy.refl _ _⟩
          | 2, ho =>
            obtain rfl := Option.some.inj ho
            exact StepsTo.move rfl (.tmp 99) (.inl rfl) ⟨(ht 1 (by kernel_rfl)), fun h => absurd h (by decide), fun _ => World.grownBy.refl _ _⟩
          | 3, ho =>
            obtain rfl := Option.some.inj ho
            refine StepsTo.guarded (wanted_of rfl rfl (show a1.eval (.tmp 100) = .bool false from (ht 2 (by kernel_rfl)))) ?_
            exact StepsTo.move rfl (.tmp 17) (.inl rfl) ⟨(hw 17 (by kernel_rfl)), fun h => absurd h (by decide), fun _ => World.grownBy.refl _ _⟩
          | 4, ho =>
            obtain rfl := Option.some.inj ho
            refine StepsTo.guarded (wanted_of rfl rfl (show a1.eval (.tmp 100) = .bool false from (ht 2 (by kernel_rfl)))) ?_
            exact StepsTo.of_run rfl (run_neqE rfl (show a1.eval (.tmp 101) = .int .i64 0 from (ht 3 (by kernel_rfl))) (show a1.eval (.const (.int .i64 0)) = .int .i64 0 from rfl)) ⟨rfl, fun h => absurd h (by decide), fun _ => World.grownBy.refl _ _⟩
          | 5, ho =>
            obtain rfl := Option.some.inj ho
            exact StepsTo.of_run rfl (run_pick rfl (show a1.eval (.tmp 100) = .bool false from (ht 2 (by kernel_rfl))) rfl (show a1.eval (.tmp 102) = .bool false from (ht 4 (by kernel_rfl)))) ⟨rfl, fun h => absurd h (by decide), fun _ => World.grownBy.refl _ _⟩
          | 6, ho =>
            obtain rfl := Option.some.inj ho
            exact StepsTo.move rfl (.tmp 103) (.inl rfl) ⟨(ht 5 (by kernel_rfl)), fun h => absurd h (by decide), fun _ => World.grownBy.refl _ _⟩
          | 7, ho =>
            obtain rfl := Option.some.inj ho
            refine StepsTo.guarded (wanted_of rfl rfl (show a1.eval (.tmp 104) = .bool false from (ht 6 (by kernel_rfl)))) ?_
            exact StepsTo.of_run rfl (run_faddr 1 (by decide) rfl (show a1.eval (.tmp 11) = .pointer (some ⟨v6.heap.size, 0, none⟩) from (hw 11 (by kernel_rfl)))) ⟨rfl, fun h => absurd h (by decide), fun _ => World.grownBy.refl _ _⟩
          | 8, ho =>
            obtain rfl := Option.some.inj ho
            refine StepsTo.guarded (wanted_of rfl rfl (show a1.eval (.tmp 104) = .bool false from (ht 6 (by kernel_rfl)))) ?_
            exact steps_ldd (ldd_rules (some ⟨b1, o1, none⟩) rn' rc') rfl (.tmp 105) rfl (ht 7 (by kernel_rfl)) (by have h := (hJ.block _ (Array.getElem?_eq_some_iff.1 HPY.out).1 (by simp)).trans HPY.out; simp [World.cell?, h]) ⟨rfl, fun h => absurd h (by decide), fun _ => World.grownBy.refl _ _⟩
          | 9, ho =>
            obtain rfl := Option.some.inj ho
            refine StepsTo.guarded (wanted_of rfl rfl (show a1.eval (.tmp 104) = .bool false from (ht 6 (by kernel_rfl)))) ?_
            exact StepsTo.move rfl (.tmp 13) (.inl rfl) ⟨(show a1.eval (.tmp 13) = .int .i64 (i : Int) from (hw 13 (by kernel_rfl))), fun h => absurd h (by decide), fun _ => World.grownBy.refl _ _⟩
          | 10, ho =>
            obtain rfl := Option.some.inj ho
            refine StepsTo.guarded (wanted_of rfl rfl (show a1.eval (.tmp 104) = .bool false from (ht 6 (by kernel_rfl)))) ?_
            exact StepsTo.of_run rfl (run_idxR rfl (show a1.eval (.tmp 106) = (.slice (some ⟨b1, o1, none⟩) rn' rc') from (ht 8 (by kernel_rfl))) (show a1.eval (.tmp 107) = .int .i64 (i : Int) from (ht 9 (by kernel_rfl))) (by omega)) ⟨rfl, fun h => absurd h (by decide), fun _ => World.grownBy.refl _ _⟩
          | 11, ho =>
            obtain rfl := Option.some.inj ho
            refine StepsTo.guarded (wanted_of rfl rfl (show a1.eval (.tmp 104) = .bool false from (ht 6 (by kernel_rfl)))) ?_
            have hb := grown_below7 hJ
            exact StepsTo.of_run rfl (run_loadRule rfl (show a1.eval (.tmp 108) = .pointer (some ⟨b1, o1 + i * 3, none⟩) from (ht 10 (by kernel_rfl))) ((hb.cell (p := ⟨b1, o1 + i * 3, none⟩) HBL9.out).trans HC1.out) ((hb.cell (p := ⟨b1, o1 + i * 3 + 1, none⟩) HBL9.out).trans HC2.out) ((hb.cell (p := ⟨b1, o1 + i * 3 + 2, none⟩) HBL9.out).trans HC3.out)) ⟨rfl, fun h => absurd h (by decide), fun _ => World.grownBy.refl _ _⟩
          | 12, ho =>
            obtain rfl := Option.some.inj ho
            refine StepsTo.guarded (wanted_of rfl rfl (show a1.eval (.tmp 104) = .bool false from (ht 6 (by kernel_rfl)))) ?_
            have e1 : a1.eval (.tmp 109) = .agg #[Value.slice ka kn kc, Value.slice ja jn jc, Value.int .u64 C2] := (ht 11 (by kernel_rfl))
            refine StepsTo.enter rfl _ _ (run_fitR rfl e1) (fit7_is ⟨ka, kn, kc, LL, ja, jn, jc, RR, C2⟩ true w1 (HX9.out.below (grown_below7 hJ) (Nat.le_refl _)) HF.out) (fun e w' h => ?_)
            exact ⟨_, h.1, rfl, fun h => absurd h (by decide), fun _ => below_grew7 h.2⟩
          | 13, ho =>
            obtain rfl := Option.some.inj ho
            refine StepsTo.guarded (wanted_of rfl rfl (show a1.eval (.tmp 104) = .bool false from (ht 6 (by kernel_rfl)))) ?_
            exact StepsTo.of_run rfl (run_notB rfl (show a1.eval (.tmp 110) = .bool true from (ht 12 (by kernel_rfl)))) ⟨rfl, fun h => absurd h (by decide), fun _ => World.grownBy.refl _ _⟩
          | 14, ho =>
            obtain rfl := Option.some.inj ho
            exact StepsTo.of_run rfl (run_pick rfl (show a1.eval (.tmp 104) = .bool false from (ht 6 (by kernel_rfl))) rfl (show a1.eval (.tmp 111) = .bool false from (ht 13 (by kernel_rfl)))) ⟨rfl, fun h => absurd h (by decide), fun _ => World.grownBy.refl _ _⟩
          | 15, ho =>
            obtain rfl := Option.some.inj ho
            exact StepsTo.move rfl (.tmp 112) (.inl rfl) ⟨(ht 14 (by kernel_rfl)), fun h => absurd h (by decide), fun _ => World.grownBy.refl _ _⟩
          | 16, ho =>
            obtain rfl := Option.some.inj ho
            refine StepsTo.guarded (wanted_of rfl rfl (show a1.eval (.tmp 113) = .bool false from (ht 15 (by kernel_rfl)))) ?_
            exact StepsTo.of_run rfl (run_faddr 1 (by decide) rfl (show a1.eval (.tmp 16) = .pointer (some ⟨q2.heap.size, 0, none⟩) from (hw 16 (by kernel_rfl)))) ⟨rfl, fun h => absurd h (by decide), fun _ => World.grownBy.refl _ _⟩
          | 17, ho =>
            obtain rfl := Option.some.inj ho
            refine StepsTo.guarded (wanted_of rfl rfl (show a1.eval (.tmp 113) = .bool false from (ht 15 (by kernel_rfl)))) ?_
            exact steps_ldd (ldd_rules ea en ec) rfl (.tmp 114) rfl (ht 16 (by kernel_rfl)) (by have h := (hJ.block _ (Array.getElem?_eq_some_iff.1 HPZ.out).1 (by simp)).trans HPZ.out; simp [World.cell?, h]) ⟨rfl, fun h => absurd h (by decide), fun _ => World.grownBy.refl _ _⟩
          | 18, ho =>
            obtain rfl := Option.some.inj ho
            refine StepsTo.guarded (wanted_of rfl rfl (show a1.eval (.tmp 113) = .bool false from (ht 15 (by kernel_rfl)))) ?_
            exact StepsTo.of_run rfl (run_faddr 1 (by decide) rfl (show a1.eval (.tmp 11) = .pointer (some ⟨v6.heap.size, 0, none⟩) from (hw 11 (by kernel_rfl)))) ⟨rfl, fun h => absurd h (by decide), fun _ => World.grownBy.refl _ _⟩
          | 19, ho =>
            obtain rfl := Option.some.inj ho
            refine StepsTo.guarded (wanted_of rfl rfl (show a1.eval (.tmp 113) = .bool false from (ht 15 (by kernel_rfl)))) ?_
            exact steps_ldd (ldd_rules (some ⟨b1, o1, none⟩) rn' rc') rfl (.tmp 116) rfl (ht 18 (by kernel_rfl)) (by have h := (hJ.block _ (Array.getElem?_eq_some_iff.1 HPY.out).1 (by simp)).trans HPY.out; simp [World.cell?, h]) ⟨rfl, fun h => absurd h (by decide), fun _ => World.grownBy.refl _ _⟩
          | 20, ho =>
            obtain rfl := Option.some.inj ho
            refine StepsTo.guarded (wanted_of rfl rfl (show a1.eval (.tmp 113) = .bool false from (ht 15 (by kernel_rfl)))) ?_
            exact StepsTo.move rfl (.tmp 13) (.inl rfl) ⟨(show a1.eval (.tmp 13) = .int .i64 (i : Int) from (hw 13 (by kernel_rfl))), fun h => absurd h (by decide), fun _ => World.grownBy.refl _ _⟩
          | 21, ho =>
            obtain rfl := Option.some.inj ho
            refine StepsTo.guarded (wanted_of rfl rfl (show a1.eval (.tmp 113) = .bool false from (ht 15 (by kernel_rfl)))) ?_
            exact StepsTo.move rfl (.tmp 13) (.inl rfl) ⟨(show a1.eval (.tmp 13) = .int .i64 (i : Int) from (hw 13 (by kernel_rfl))), fun h => absurd h (by decide), fun _ => World.grownBy.refl _ _⟩
          | 22, ho =>
            obtain rfl := Option.some.inj ho
            refine StepsTo.guarded (wanted_of rfl rfl (show a1.eval (.tmp 113) = .bool false from (ht 15 (by kernel_rfl)))) ?_
            exact StepsTo.of_run rfl (run_addI rfl (show a1.eval (.tmp 119) = .int .i64 (i : Int) from (ht 21 (by kernel_rfl))) (show a1.eval (.const (.int .i64 1)) = .int .i64 1 from rfl) (by omega)) ⟨rfl, fun h => absurd h (by decide), fun _ => World.grownBy.refl _ _⟩
          | 23, ho =>
            obtain rfl := Option.some.inj ho
            refine StepsTo.guarded (wanted_of rfl rfl (show a1.eval (.tmp 113) = .bool false from (ht 15 (by kernel_rfl)))) ?_
            exact StepsTo.of_run rfl (run_sliceR rfl (show a1.eval (.tmp 117) = (.slice (some ⟨b1, o1, none⟩) rn' rc') from (ht 19 (by kernel_rfl))) (show a1.eval (.tmp 118) = .int .i64 (i : Int) from (ht 20 (by kernel_rfl))) (show a1.eval (.tmp 120) = .int .i64 ((i : Int) + 1) from (ht 22 (by kernel_rfl))) (by omega) (by omega) (by omega)) ⟨rfl, fun h => absurd h (by decide), fun _ => World.grownBy.refl _ _⟩
          | 24, ho =>
            obtain rfl := Option.some.inj ho
            refine StepsTo.guarded (wanted_of rfl rfl (show a1.eval (.tmp 113) = .bool false from (ht 15 (by kernel_rfl)))) ?_
            have e1 : a1.eval (.tmp 115) = .slice ea en ec := (ht 17 (by kernel_rfl))
            have e2 : a1.eval (.tmp 121) = .slice (some ⟨b1, o1 + i * 3, none⟩) 1 (rc' - i) := (ht 23 (by kernel_rfl))
            have hb := grown_below7 hJ
            refine StepsTo.enter rfl _ _ (run_sameR rfl e1 e2) (rsames_is ea (some ⟨b1, o1 + i * 3, none⟩) en 1 ec (rc' - i) xs2 ((ys.drop i).take 1) true w1 (HR2.out.below hb (Nat.le_refl _)) ((HR9.out.piece i 1 (by omega)).below hb (Nat.le_refl _)) (by rw [HRU2.out, HPI.out]; simp)) (fun e w' h => ?_)
            exact ⟨_, h.1, rfl, fun h => absurd h (by decide), fun _ => below_grew7 (below_drawn (Below.refl _ _) h.2)⟩
          | 25, ho =>
            obtain rfl := Option.some.inj ho
            refine StepsTo.guarded (wanted_of rfl rfl (show a1.eval (.tmp 113) = .bool false from (ht 15 (by kernel_rfl)))) ?_
            exact StepsTo.of_run rfl (run_notB rfl (show a1.eval (.tmp 122) = .bool true from (ht 24 (by kernel_rfl)))) ⟨rfl, fun h => absurd h (by decide), fun _ => World.grownBy.refl _ _⟩
          | 26, ho =>
            obtain rfl := Option.some.inj ho
            exact StepsTo.of_run rfl (run_pick rfl (show a1.eval (.tmp 113) = .bool false from (ht 15 (by kernel_rfl))) rfl (show a1.eval (.tmp 123) = .bool false from (ht 25 (by kernel_rfl)))) ⟨rfl, fun h => absurd h (by decide), fun _ => World.grownBy.refl _ _⟩
          | j1 + 27, ho => exact absurd (Array.getElem?_eq_some_iff.1 ho).1 (by simp)
        intro tm w9 hsz hJ hfr hto
        rw [act_lit2 tm (show tm.size = 161 from hsz)]
        simp only [List.range, List.range.loop, List.map_cons, List.map_nil]
        rw [hfr 0 (by kernel_rfl), hfr 1 (by kernel_rfl), hfr 2 (by kernel_rfl), hfr 3 (by kernel_rfl), hfr 4 (by kernel_rfl), hfr 5 (by kernel_rfl), hfr 6 (by kernel_rfl), hfr 7 (by kernel_rfl), hfr 8 (by kernel_rfl), hfr 9 (by kernel_rfl), hfr 10 (by kernel_rfl), hfr 11 (by kernel_rfl), hfr 12 (by kernel_rfl), hfr 13 (by kernel_rfl), hfr 14 (by kernel_rfl), hfr 15 (by kernel_rfl), hfr 16 (by kernel_rfl), hfr 17 (by kernel_rfl), hfr 18 (by kernel_rfl), hfr 19 (by kernel_rfl), hfr 20 (by kernel_rfl), hfr 21 (by kernel_rfl), hfr 22 (by kernel_rfl), hfr 23 (by kernel_rfl), hfr 24 (by kernel_rfl), hfr 25 (by kernel_rfl), hfr 26 (by kernel_rfl), hfr 27 (by kernel_rfl), hfr 28 (by kernel_rfl), hfr 29 (by kernel_rfl), hfr 30 (by kernel_rfl), hfr 31 (by kernel_rfl), hfr 32 (by kernel_rfl), hfr 33 (by kernel_rfl), hfr 34 (by kernel_rfl), hfr 35 (by kernel_rfl), hfr 36 (by kernel_rfl), hfr 37 (by kernel_rfl), hfr 38 (by kernel_rfl), hfr 39 (by kernel_rfl), hfr 40 (by kernel_rfl), hfr 41 (by kernel_rfl), hfr 42 (by kernel_rfl), hfr 43 (by kernel_rfl), hfr 44 (by kernel_rfl), hfr 45 (by kernel_rfl), hfr 46 (by kernel_rfl), hfr 47 (by kernel_rfl), hfr 48 (by kernel_rfl), hfr 49 (by kernel_rfl), hfr 50 (by kernel_rfl), hfr 51 (by kernel_rfl), hfr 52 (by kernel_rfl), hfr 53 (by kernel_rfl), hfr 54 (by kernel_rfl), hfr 55 (by kernel_rfl), hfr 56 (by kernel_rfl), hfr 57 (by kernel_rfl), hfr 58 (by kernel_rfl), hfr 59 (by kernel_rfl), hfr 60 (by kernel_rfl), hfr 61 (by kernel_rfl), hfr 62 (by kernel_rfl), hfr 63 (by kernel_rfl), hfr 64 (by kernel_rfl), hfr 65 (by kernel_rfl), hfr 66 (by kernel_rfl), hfr 67 (by kernel_rfl), hfr 68 (by kernel_rfl), hfr 69 (by kernel_rfl), hfr 70 (by kernel_rfl), hfr 71 (by kernel_rfl), hfr 72 (by kernel_rfl), hfr 73 (by kernel_rfl), hfr 74 (by kernel_rfl), hfr 75 (by kernel_rfl), hfr 76 (by kernel_rfl), hfr 77 (by kernel_rfl), hfr 78 (by kernel_rfl), hfr 79 (by kernel_rfl), hfr 80 (by kernel_rfl), hfr 81 (by kernel_rfl), hfr 82 (by kernel_rfl), hfr 83 (by kernel_rfl), hfr 84 (by kernel_rfl), hfr 85 (by kernel_rfl), hfr 86 (by kernel_rfl), hfr 87 (by kernel_rfl), hfr 88 (by kernel_rfl), hfr 89 (by kernel_rfl), hfr 90 (by kernel_rfl), hfr 91 (by kernel_rfl), hfr 92 (by kernel_rfl), hfr 93 (by kernel_rfl), hfr 94 (by kernel_rfl), hfr 95 (by kernel_rfl), hfr 96 (by kernel_rfl), hfr 97 (by kernel_rfl), hfr 125 (by kernel_rfl), hfr 126 (by kernel_rfl), hfr 127 (by kernel_rfl), hfr 128 (by kernel_rfl), hfr 129 (by kernel_rfl), hfr 130 (by kernel_rfl), hfr 131 (by kernel_rfl), hfr 132 (by kernel_rfl), hfr 133 (by kernel_rfl), hfr 134 (by kernel_rfl), hfr 135 (by kernel_rfl), hfr 136 (by kernel_rfl), hfr 137 (by kernel_rfl), hfr 138 (by kernel_rfl), hfr 139 (by kernel_rfl), hfr 140 (by kernel_rfl), hfr 141 (by kernel_rfl), hfr 142 (by kernel_rfl), hfr 143 (by kernel_rfl), hfr 144 (by kernel_rfl), hfr 145 (by kernel_rfl), hfr 146 (by kernel_rfl), hfr 147 (by kernel_rfl), hfr 148 (by kernel_rfl), hfr 149 (by kernel_rfl), hfr 150 (by kernel_rfl), hfr 151 (by kernel_rfl), hfr 152 (by kernel_rfl), hfr 153 (by kernel_rfl), hfr 154 (by kernel_rfl), hfr 155 (by kernel_rfl), hfr 156 (by kernel_rfl), hfr 157 (by kernel_rfl), hfr 158 (by kernel_rfl), hfr 159 (by kernel_rfl), hfr 160 (by kernel_rfl)]
        simp only [Array.getD_eq_getD_getElem?, List.getElem?_toArray, List.getElem?_cons_succ, List.getElem?_cons_zero, Option.getD_some]
        have t0 : (tm[98]?.getD undef) = .int .i64 0 := by have h := hto 0 (by decide); simp only [Array.getD_eq_getD_getElem?] at h; exact h
        have t1 : (tm[99]?.getD undef) = .bool false := by have h := hto 1 (by decide); simp only [Array.getD_eq_getD_getElem?] at h; exact h
        have t2 : (tm[100]?.getD undef) = .bool false := by have h := hto 2 (by decide); simp only [Array.getD_eq_getD_getElem?] at h; exact h
        have t3 : (tm[101]?.getD undef) = .int .i64 0 := by have h := hto 3 (by decide); simp only [Array.getD_eq_getD_getElem?] at h; exact h
        have t4 : (tm[102]?.getD undef) = .bool false := by have h := hto 4 (by decide); simp only [Array.getD_eq_getD_getElem?] at h; exact h
        have t5 : (tm[103]?.getD undef) = .bool false := by have h := hto 5 (by decide); simp only [Array.getD_eq_getD_getElem?] at h; exact h
        have t6 : (tm[104]?.getD undef) = .bool false := by have h := hto 6 (by decide); simp only [Array.getD_eq_getD_getElem?] at h; exact h
        have t7 : (tm[105]?.getD undef) = .pointer (some ⟨v6.heap.size, 1, none⟩) := by have h := hto 7 (by decide); simp only [Array.getD_eq_getD_getElem?] at h; exact h
        have t8 : (tm[106]?.getD undef) = .slice (some ⟨b1, o1, none⟩) rn' rc' := by have h := hto 8 (by decide); simp only [Array.getD_eq_getD_getElem?] at h; exact h
        have t9 : (tm[107]?.getD undef) = .int .i64 (i : Int) := by have h := hto 9 (by decide); simp only [Array.getD_eq_getD_getElem?] at h; exact h
        have t10 : (tm[108]?.getD undef) = .pointer (some ⟨b1, o1 + i * 3, none⟩) := by have h := hto 10 (by decide); simp only [Array.getD_eq_getD_getElem?] at h; exact h
        have t11 : (tm[109]?.getD undef) = .agg #[Value.slice ka kn kc, Value.slice ja jn jc, Value.int .u64 C2] := by have h := hto 11 (by decide); simp only [Array.getD_eq_getD_getElem?] at h; exact h
        have t12 : (tm[110]?.getD undef) = .bool true := by have h := hto 12 (by decide); simp only [Array.getD_eq_getD_getElem?] at h; exact h
        have t13 : (tm[111]?.getD undef) = .bool false := by have h := hto 13 (by decide); simp only [Array.getD_eq_getD_getElem?] at h; exact h
        have t14 : (tm[112]?.getD undef) = .bool false := by have h := hto 14 (by decide); simp only [Array.getD_eq_getD_getElem?] at h; exact h
        have t15 : (tm[113]?.getD undef) = .bool false := by have h := hto 15 (by decide); simp only [Array.getD_eq_getD_getElem?] at h; exact h
        have t16 : (tm[114]?.getD undef) = .pointer (some ⟨q2.heap.size, 1, none⟩) := by have h := hto 16 (by decide); simp only [Array.getD_eq_getD_getElem?] at h; exact h
        have t17 : (tm[115]?.getD undef) = .slice ea en ec := by have h := hto 17 (by decide); simp only [Array.getD_eq_getD_getElem?] at h; exact h
        have t18 : (tm[116]?.getD undef) = .pointer (some ⟨v6.heap.size, 1, none⟩) := by have h := hto 18 (by decide); simp only [Array.getD_eq_getD_getElem?] at h; exact h
        have t19 : (tm[117]?.getD undef) = .slice (some ⟨b1, o1, none⟩) rn' rc' := by have h := hto 19 (by decide); simp only [Array.getD_eq_getD_getElem?] at h; exact h
        have t20 : (tm[118]?.getD undef) = .int .i64 (i : Int) := by have h := hto 20 (by decide); simp only [Array.getD_eq_getD_getElem?] at h; exact h
        have t21 : (tm[119]?.getD undef) = .int .i64 (i : Int) := by have h := hto 21 (by decide); simp only [Array.getD_eq_getD_getElem?] at h; exact h
        have t22 : (tm[120]?.getD undef) = .int .i64 ((i : Int) + 1) := by have h := hto 22 (by decide); simp only [Array.getD_eq_getD_getElem?] at h; exact h
        have t23 : (tm[121]?.getD undef) = .slice (some ⟨b1, o1 + i * 3, none⟩) 1 (rc' - i) := by have h := hto 23 (by decide); simp only [Array.getD_eq_getD_getElem?] at h; exact h
        have t24 : (tm[122]?.getD undef) = .bool true := by have h := hto 24 (by decide); simp only [Array.getD_eq_getD_getElem?] at h; exact h
        have t25 : (tm[123]?.getD undef) = .bool false := by have h := hto 25 (by decide); simp only [Array.getD_eq_getD_getElem?] at h; exact h
        have t26 : (tm[124]?.getD undef) = .bool false := by have h := hto 26 (by decide); simp only [Array.getD_eq_getD_getElem?] at h; exact h
        clear hto
        generalize tm[98]?.getD undef = y98 at *
        generalize tm[99]?.getD undef = y99 at *
        generalize tm[100]?.getD undef = y100 at *
        generalize tm[101]?.getD undef = y101 at *
        generalize tm[102]?.getD undef = y102 at *
        generalize tm[103]?.getD undef = y103 at *
        generalize tm[104]?.getD undef = y104 at *
        generalize tm[105]?.getD undef = y105 at *
        generalize tm[106]?.getD undef = y106 at *
        generalize tm[107]?.getD undef = y107 at *
        generalize tm[108]?.getD undef = y108 at *
        generalize tm[109]?.getD undef = y109 at *
        generalize tm[110]?.getD undef = y110 at *
        generalize tm[111]?.getD undef = y111 at *
        generalize tm[112]?.getD undef = y112 at *
        generalize tm[113]?.getD undef = y113 at *
        generalize tm[114]?.getD undef = y114 at *
        generalize tm[115]?.getD undef = y115 at *
        generalize tm[116]?.getD undef = y116 at *
        generalize tm[117]?.getD undef = y117 at *
        generalize tm[118]?.getD undef = y118 at *
        generalize tm[119]?.getD undef = y119 at *
        generalize tm[120]?.getD undef = y120 at *
        generalize tm[121]?.getD undef = y121 at *
        generalize tm[122]?.getD undef = y122 at *
        generalize tm[123]?.getD undef = y123 at *
        generalize tm[124]?.getD undef = y124 at *
        clear hfr hsz tm
        obtain rfl := t26
        have hb9 := grown_below7 hJ
        have HB9 : Hid (Below w.heap.size w w9) := HBW.out.trans (hb9.mono HBW.out.size)
        have HP9 : Hid (w9.heap[v6.heap.size]? = some (.cells #[.slice ba bn bc, .slice (some ⟨b1, o1, none⟩) rn' rc'] 32 (0, 0))) := (hb9.block _ (Array.getElem?_eq_some_iff.1 HPY.out).1).trans HPY.out
        have HR10 := Lib.hid (HR9.out.below hb9 (Nat.le_refl _))
        clear t0 t1 t2 t3 t4 t5 t6 t7 t8 t9 t10 t11 t12 t13 t14 t15 t16 t17 t18 t19 t20 t21 t22 t23 t24 t25 hJ hb9
        go_wp2
        go_roundw
        case rel => exact ⟨i + 1, by omega, by go_num, HB9.out, HP9.out, HR10.out⟩
        case measure => simp [intOf]; omega
      · obtain rfl : i = rn' := by omega
        have hcy0 : wr.cell? ⟨v6.heap.size, 0, none⟩ = some (.slice ba bn bc) := by simp [World.cell?, HP.out]
        have hor : (E = 0 ∧ bn = 0) ∨ (E = 0 ∧ bn = 4 ∧ i = 0) ∨ ((E == 0) = false ∧ bn = 0 ∧ i = 0) := by
          have hfn := HFN.out.2
          have h1 := HBN.out
          have h2 := HRN.out
          rw [HE.out] at hfn
          by_cases h : E = 0
          · rcases hfn.2 with h3 | ⟨h3, h4⟩
            · exact .inl ⟨h, by rw [h1, h3]; rfl⟩
            · exact .inr (.inl ⟨h, by rw [h1, h3], by rw [h2, h4]; rfl⟩)
          · have h3 := hfn.1 h
            exact .inr (.inr ⟨by simp [h], by rw [h1, h3.1]; rfl, by rw [h2, h3.2]; rfl⟩)
        have hsc0 := HB.out.size
        rcases hor with ⟨rfl, rfl⟩ | ⟨rfl, rfl, rfl⟩ | ⟨hE0, rfl, rfl⟩
        · go_wp2
          go_ret
          exact ⟨rfl, HB.out⟩
        · go_wp2
          go_ret
          exact ⟨rfl, HB.out⟩
        · go_wp2
          go_ret
          exact ⟨rfl, HB.out⟩
  · obtain rfl : er = 0 := by have h := HER.out; rw [if_pos rfl] at h; exact h.symm
    go_wp2_with fail
    refine (read7_is wa wn wc out ⟨0, [], [⟨L, R, C⟩]⟩ v3 HSW.out HWN.out (by rw [HWL.out]; exact HOL.out) (by rw [show out = Spec.write ⟨L, R, C⟩ from by have h := HOUT.out; rw [if_pos (by trivial)] at h; exact h.symm]; exact Spec.read_write HFT.out HX3.out.2.2.1)).mono ?_
    rintro e v4 ⟨ba1, bn1, bc1, ra1, rn1, rc1, xs1, rfl, hbs1, _, hrs1, hru1, _, hb4⟩
    obtain rfl : bn1 = 0 := hbs1.1.symm
    have HB4 : Hid (Below w.heap.size w v4) := HB3.out.trans (hb4.mono HB3.out.size)
    have h34 := (hb4.block _ (Array.getElem?_eq_some_iff.1 H33.out).1).trans H33.out
    have H34a : Hid (∀ o, (v4.alloc o).heap[w.heap.size]? = some (.cells #[.slice la ln lc, .slice ra rn rc, .int .u64 C] 26 (0, 0))) := fun o => ((World.grownBy_alloc v4 o none).block _ (Array.getElem?_eq_some_iff.1 h34).1 (by simp)).trans h34
    have HX4 := Lib.hid (HX3.out.below hb4 (Nat.le_refl _))
    have S4 := Lib.hid (S3.out.below hb4 (Nat.le_refl _))
    have HRS1 := Lib.hid hrs1
    have HRU1 := Lib.hid hru1
    have hcx1 : (v4.alloc (.cells #[.slice ba1 0 bc1, .slice ra1 rn1 rc1] 32 (0, 0))).cell? ⟨v4.heap.size, 1, none⟩ = some (.slice ra1 rn1 rc1) := by have h := heap_alloc_new v4 (.cells #[.slice ba1 0 bc1, .slice ra1 rn1 rc1] 32 (0, 0)); first | (unfold World.cell?; rw [h]; rfl) | (simp only [World.cell?, h]; rfl) | simp [World.cell?, heap_alloc_new, h]
    clear hb4 h34 H33 HX3 S3 HB3 hbs1 hrs1 hru1
    go_wp2_with (refine wpList_load_row_w (by rfl) 26 (.tmp 3) (by rfl) w.heap.size (by rfl) 26 #[.slice la ln lc, .slice ra rn rc, .int .u64 C] (0, 0) _ (H34a.out _) Try.underlying26 (by rfl) HIR.out ?_)
    refine (rsames_is _ _ _ _ _ _ xs1 [⟨la, ln, lc, L, ra, rn, rc, R, C⟩] true _ ((HRS1.out.alloc _).alloc _) (Rs.newc [⟨la, ln, lc, L, ra, rn, rc, R, C⟩] (by intro x hx; rw [List.mem_singleton.1 hx]; exact HX4.out.alloc _) (by simp [maxLen]) (by simp) rfl rfl) (by rw [HRU1.out]; simp [ruls, Rw.r])).mono ?_
    rintro e v5 ⟨rfl, hq5⟩
    have hstB : Below (v4.alloc (.cells #[.slice ba1 0 bc1, .slice ra1 rn1 rc1] 32 (0, 0))).heap.size (v4.alloc (.cells #[.slice ba1 0 bc1, .slice ra1 rn1 rc1] 32 (0, 0))) v5 := below_drawn ((Below.refl _ _).alloc (Nat.le_refl _) _) hq5
    have h45 : Below v4.heap.size v4 v5 := ((Below.refl v4.heap.size v4).alloc (Nat.le_refl _) (.cells #[.slice ba1 0 bc1, .slice ra1 rn1 rc1] 32 (0, 0))).trans (hstB.mono (by simp))
    have hbx : v5.heap[v4.heap.size]? = some (.cells #[.slice ba1 0 bc1, .slice ra1 rn1 rc1] 32 (0, 0)) := (hstB.block _ (by simp)).trans (heap_alloc_new v4 _)
    have hcx0 : v5.cell? ⟨v4.heap.size, 0, none⟩ = some (.slice ba1 0 bc1) := by simp [World.cell?, hbx]
    have HB5 : Hid (Below w.heap.size w v5) := HB4.out.trans (h45.mono HB4.out.size)
    have S5 := Lib.hid (S4.out.below h45 (Nat.le_refl _))
    clear hstB h45 hbx hq5 HB4 S4 HX4 H34a hcx1 HRS1 HRU1 HSW HWN HWL HOUT HER HLR HLR1 HOL
    go_wp2_with fail
    refine (read7_is a0 len0 cap0 xs s _ S5.out HN0.out (by omega) HSR.out).mono ?_
    rintro e v6 ⟨ba, bn, bc, ra', rn', rc', ys, rfl, hbs, _, hrs, hru, _, hb6⟩
    have HB6 : Hid (Below w.heap.size w v6) := HB5.out.trans (hb6.mono HB5.out.size)
    have HBN : Hid (bn = s.base.length) := hbs.1.symm
    have HRN : Hid (rn' = s.rules.length) := rs_len hrs hru
    have HRU := Lib.hid hru
    have hrcm := hrs.2.2.1
    unfold maxLen at hrcm
    have hrnc := hrs.2.1
    have HRS := Lib.hid hrs
    obtain ⟨E, hE⟩ : ∃ E, s.e = E := ⟨_, rfl⟩
    rw [hE]
    have HE := Lib.hid hE
    clear hE hbs hrs hru hb6 S5 HB5
    go_wp2
    go_loopw [13] (fun ix wr => ∃ i : Nat, i ≤ rn' ∧ ix = .int .i64 (i : Int) ∧ Hid (Below w.heap.size w wr) ∧ Hid (wr.heap[v6.heap.size]? = some (.cells #[.slice ba bn bc, .slice ra' rn' rc'] 32 (0, 0))) ∧ Hid (Rs wr ra' rn' rc' ys)) (fun ix _ => rn' - (intOf ix).toNat)
    case atStart => exact ⟨0, Nat.zero_le _, rfl, HB6.out.alloc HB6.out.size _, heap_alloc_new v6 _, HRS.out.alloc _⟩
    case round =>
      obtain ⟨i, hi, rfl, HB, HP, HR⟩ := hrel
      have hcy1 : wr.cell? ⟨v6.heap.size, 1, none⟩ = some (.slice ra' rn' rc') := by simp [World.cell?, HP.out]
      by_cases hlt : i < rn'
      · obtain ⟨b1, o1, ka, kn, kc, LL, ja, jn, jc, RR, C2, hra, hb1, hx1, hx2, hx3, hsl, hsr2, hC0, hC1, hz1⟩ := HR.out.one i hlt
        subst hra
        have HF : Hid (Spec.fit ⟨LL, RR, C2⟩ = true) := by
          have h1 := HFN.out.1
          have h2 := ruls_in (xs := ys) (i := i) (by rw [HR.out.1]; exact hlt)
          rw [HRU.out, hz1] at h2
          exact h1 _ h2
        have hsh : LL.length ≤ 8 ∧ RR.length ≤ 8 := fit_short HF.out
        have HSH : Hid (LL.length ≤ 1000 ∧ RR.length ≤ 1000) := ⟨by omega, by omega⟩
        obtain ⟨o2, ho2⟩ : ∃ o, Spec.write ⟨LL, RR, C2⟩ = o := ⟨_, rfl⟩
        have HO2L : Hid (o2.length ≤ 1000) := by
          show o2.length ≤ 1000
          rw [← ho2]
          exact write_len (show LL.length ≤ 100 by omega) (show RR.length ≤ 100 by omega) hC0 hC1
        have HRW : Hid (Spec.read o2 = ⟨0, [], [⟨LL, RR, C2⟩]⟩) := by
          show Spec.read o2 = _
          rw [← ho2]; exact Spec.read_write HF.out hC0
        have HO2 : Hid ((if true = true then Spec.write ⟨LL, RR, C2⟩ else []) = o2) := by
          show (if true = true then Spec.write ⟨LL, RR, C2⟩ else []) = o2
          rw [if_pos rfl]; exact ho2
        have HGX : Hid ((⟨ka, kn, kc, LL, ja, jn, jc, RR, C2⟩ : Rw).Good wr) := ⟨hsl, hsr2, hC0, hC1⟩
        have HPI : Hid (ruls ((ys.drop i).take 1) = [⟨LL, RR, C2⟩]) := ruls_piece (by rw [HR.out.1]; exact hlt) (by rw [hz1]; rfl)
        have HBL := Lib.hid hb1
        have HC1a := Lib.hid hx1
        have HC2a := Lib.hid hx2
        have HC3a := Lib.hid hx3
        have hlti : (i : Int) < (rn' : Int) := by omega
        clear hz1 hsh ho2 hsl hsr2
        go_wp2_with fail
        refine (write7_is ⟨ka, kn, kc, LL, ja, jn, jc, RR, C2⟩ true o2 0 _ HGX.out HSH.out HF.out HO2.out rfl).mono ?_
        rintro e q1 ⟨wa2, wn2, wc2, rfl, hwn2, hw2, hwnil2, hbq1⟩
        have HQ1 : Hid (Below wr.heap.size wr q1) := hbq1
        have HW2 := Lib.hid hw2
        have HW2N := Lib.hid hwnil2
        have HW2L : Hid (wn2 = o2.length) := hwn2
        clear hx1 hx2 hx3 hbq1 hw2 hwnil2 hwn2 hcy1 hb1
        go_wp2_with fail
        refine (read7_is wa2 wn2 wc2 o2 ⟨0, [], [⟨LL, RR, C2⟩]⟩ q1 HW2.out HW2N.out (by rw [HW2L.out]; exact HO2L.out) HRW.out).mono ?_
        rintro e q2 ⟨za, zn, zc, ea, en, ec, xs2, rfl, _, _, hrs2, hru2, _, hbq2⟩
        have hst : Below wr.heap.size wr q2 := HQ1.out.trans (hbq2.mono HQ1.out.size)
        have hstW : Below wr.heap.size wr (q2.alloc (.cells #[.slice za zn zc, .slice ea en ec] 32 (0, 0))) := hst.alloc hst.size _
        have HPY : Hid ((q2.alloc (.cells #[.slice za zn zc, .slice ea en ec] 32 (0, 0))).drew.heap[v6.heap.size]? = some (.cells #[.slice ba bn bc, .slice (some ⟨b1, o1, none⟩) rn' rc'] 32 (0, 0))) := (hstW.block _ (Array.getElem?_eq_some_iff.1 HP.out).1).trans HP.out
        have HPZ : Hid ((q2.alloc (.cells #[.slice za zn zc, .slice ea en ec] 32 (0, 0))).drew.heap[q2.heap.size]? = some (.cells #[.slice za zn zc, .slice ea en ec] 32 (0, 0))) := heap_alloc_new q2 _
        have HX9 := Lib.hid (HGX.out.below hstW (Nat.le_refl _))
        have HR9 := Lib.hid (HR.out.below hstW (Nat.le_refl _))
        have HR2 := Lib.hid (hrs2.alloc (.cells #[.slice za zn zc, .slice ea en ec] 32 (0, 0)))
        have HRU2 := Lib.hid hru2
        have HC1 := Lib.hid ((hstW.cell (p := ⟨b1, o1 + i * 3, none⟩) HBL.out).trans HC1a.out)
        have HC2 := Lib.hid ((hstW.cell (p := ⟨b1, o1 + i * 3 + 1, none⟩) HBL.out).trans HC2a.out)
        have HC3 := Lib.hid ((hstW.cell (p := ⟨b1, o1 + i * 3 + 2, none⟩) HBL.out).trans HC3a.out)
        have HBL9 : Hid (b1 < (q2.alloc (.cells #[.slice za zn zc, .slice ea en ec] 32 (0, 0))).heap.size) := Nat.lt_of_lt_of_le HBL.out hstW.size
        have HBW : Hid (Below w.heap.size w (q2.alloc (.cells #[.slice za zn zc, .slice ea en ec] 32 (0, 0)))) := HB.out.trans (hstW.mono HB.out.size)
        clear hst hstW hrs2 hru2 hbq2 HC1a HC2a HC3a HBL HP HB HR HGX HQ1 HW2 HW2N HW2L HO2 HO2L HRW HSH
        go_wp2_with fail
        refine wp_region_told2 HMX.out 27 [(98, 98), (99, 99), (100, 100), (101, 101), (102, 102), (103, 103), (104, 104), (105, 105), (106, 106), (107, 107), (108, 108), (109, 109), (110, 110), (111, 111), (112, 112), (113, 113), (114, 114), (115, 115), (116, 116), (117, 117), (118, 118), (119, 119), (120, 120), (121, 121), (122, 122), (123, 123), (124, 124)]
          (fun (j : Nat) (v u : Value) (w0 : World) => match j with
            | 0 => v = .int .i64 0
            | 1 => v = .bool false
            | 2 => v = .bool false
            | 3 => v = .int .i64 0
            | 4 => v = .bool false
            | 5 => v = .bool false
            | 6 => v = .bool false
            | 7 => v = .pointer (some ⟨v6.heap.size, 1, none⟩)
            | 8 => v = .slice (some ⟨b1, o1, none⟩) rn' rc'
            | 9 => v = .int .i64 (i : Int)
            | 10 => v = .pointer (some ⟨b1, o1 + i * 3, none⟩)
            | 11 => v = .agg #[Value.slice ka kn kc, Value.slice ja jn jc, Value.int .u64 C2]
            | 12 => v = .bool true
            | 13 => v = .bool false
            | 14 => v = .bool false
            | 15 => v = .bool false
            | 16 => v = .pointer (some ⟨q2.heap.size, 1, none⟩)
            | 17 => v = .slice ea en ec
            | 18 => v = .pointer (some ⟨v6.heap.size, 1, none⟩)
            | 19 => v = .slice (some ⟨b1, o1, none⟩) rn' rc'
            | 20 => v = .int .i64 (i : Int)
            | 21 => v = .int .i64 (i : Int)
            | 22 => v = .int .i64 ((i : Int) + 1)
            | 23 => v = .slice (some ⟨b1, o1 + i * 3, none⟩) 1 (rc' - i)
            | 24 => v = .bool true
            | 25 => v = .bool false
            | 26 => v = .bool false
            | _ => True)
          (fun W => ((q2.alloc (.cells #[.slice za zn zc, .slice ea en ec] 32 (0, 0)))).drew.grownBy W none) (fun _ _ _ => False) (by kernel_rfl) (by kernel_rfl) (World.grownBy.refl _ _) (fun _ _ h1 h2 => h1.trans h2) (fun _ _ _ _ h => h.elim) ?_ ?_ ?_ ?_
        · intro j v u w0 w' h hg
          match j, h with
          | 0, h => exact h
          | 1, h => exact h
          | 2, h => exact h
          | 3, h => exact h
          | 4, h => exact h
          | 5, h => exact h
          | 6, h => exact h
          | 7, h => exact h
          | 8, h => exact h
          | 9, h => exact h
          | 10, h => exact h
          | 11, h => exact h
          | 12, h => exact h
          | 13, h => exact h
          | 14, h => exact h
          | 15, h => exact h
          | 16, h => exact h
          | 17, h => exact h
          | 18, h => exact h
          | 19, h => exact h
          | 20, h => exact h
          | 21, h => exact h
          | 22, h => exact h
          | 23, h => exact h
          | 24, h => exact h
          | 25, h => exact h
          | 26, h => exact h
          | j + 27, h => exact h
        · intro j v u a0 w0 w' hne h hr
          match j, hne, h with
          | 0, hne, h => exact h
          | 1, hne, h => exact h
          | 2, hne, h => exact h
          | 3, hne, h => exact h
          | 4, hne, h => exact h
          | 5, hne, h => exact h
          | 6, hne, h => exact h
          | 7, hne, h => exact h
          | 8, hne, h => exact h
          | 9, hne, h => exact h
          | 10, hne, h => exact h
          | 11, hne, h => exact h
          | 12, hne, h => exact h
          | 13, hne, h => exact h
          | 14, hne, h => exact h
          | 15, hne, h => exact h
          | 16, hne, h => exact h
          | 17, hne, h => exact h
          | 18, hne, h => exact h
          | 19, hne, h => exact h
          | 20, hne, h => exact h
          | 21, hne, h => exact h
          | 22, hne, h => exact h
          | 23, hne, h => exact h
          | 24, hne, h => exact h
          | 25, hne, h => exact h
          | 26, hne, h => exact h
          | j + 27, _, h => exact h
        · intro i1 o ho a1 w1 hJ hw ht
          match i1, ho with
          | 0, ho =>
            obtain rfl := Option.some.inj ho
            exact StepsTo.move rfl (.tmp 15) (.inl rfl) ⟨(hw 15 (by kernel_rfl)), fun h => absurd h (by decide), fun _ => World.grownBy.refl _ _⟩
          | 1, ho =>
            obtain rfl := Option.some.inj ho
            exact StepsTo.of_run rfl (run_neqE rfl (show a1.eval (.tmp 98) = .int .i64 0 from (ht 0 (by kernel_rfl))) (show a1.eval (.const (.int .i64 0)) = .int .i64 0 from rfl)) ⟨rfl, fun h => absurd h (by decide), fun _ => World.grownBy.refl _ _⟩
          | 2, ho =>
            obtain rfl := Option.some.inj ho
            exact StepsTo.move rfl (.tmp 99) (.inl rfl) ⟨(ht 1 (by kernel_rfl)), fun h => absurd h (by decide), fun _ => World.grownBy.refl _ _⟩
          | 3, ho =>
            obtain rfl := Option.some.inj ho
            refine StepsTo.guarded (wanted_of rfl rfl (show a1.eval (.tmp 100) = .bool false from (ht 2 (by kernel_rfl)))) ?_
            exact StepsTo.move rfl (.tmp 17) (.inl rfl) ⟨(hw 17 (by kernel_rfl)), fun h => absurd h (by decide), fun _ => World.grownBy.refl _ _⟩
          | 4, ho =>
            obtain rfl := Option.some.inj ho
            refine StepsTo.guarded (wanted_of rfl rfl (show a1.eval (.tmp 100) = .bool false from (ht 2 (by kernel_rfl)))) ?_
            exact StepsTo.of_run rfl (run_neqE rfl (show a1.eval (.tmp 101) = .int .i64 0 from (ht 3 (by kernel_rfl))) (show a1.eval (.const (.int .i64 0)) = .int .i64 0 from rfl)) ⟨rfl, fun h => absurd h (by decide), fun _ => World.grownBy.refl _ _⟩
          | 5, ho =>
            obtain rfl := Option.some.inj ho
            exact StepsTo.of_run rfl (run_pick rfl (show a1.eval (.tmp 100) = .bool false from (ht 2 (by kernel_rfl))) rfl (show a1.eval (.tmp 102) = .bool false from (ht 4 (by kernel_rfl)))) ⟨rfl, fun h => absurd h (by decide), fun _ => World.grownBy.refl _ _⟩
          | 6, ho =>
            obtain rfl := Option.some.inj ho
            exact StepsTo.move rfl (.tmp 103) (.inl rfl) ⟨(ht 5 (by kernel_rfl)), fun h => absurd h (by decide), fun _ => World.grownBy.refl _ _⟩
          | 7, ho =>
            obtain rfl := Option.some.inj ho
            refine StepsTo.guarded (wanted_of rfl rfl (show a1.eval (.tmp 104) = .bool false from (ht 6 (by kernel_rfl)))) ?_
            exact StepsTo.of_run rfl (run_faddr 1 (by decide) rfl (show a1.eval (.tmp 11) = .pointer (some ⟨v6.heap.size, 0, none⟩) from (hw 11 (by kernel_rfl)))) ⟨rfl, fun h => absurd h (by decide), fun _ => World.grownBy.refl _ _⟩
          | 8, ho =>
            obtain rfl := Option.some.inj ho
            refine StepsTo.guarded (wanted_of rfl rfl (show a1.eval (.tmp 104) = .bool false from (ht 6 (by kernel_rfl)))) ?_
            exact steps_ldd (ldd_rules (some ⟨b1, o1, none⟩) rn' rc') rfl (.tmp 105) rfl (ht 7 (by kernel_rfl)) (by have h := (hJ.block _ (Array.getElem?_eq_some_iff.1 HPY.out).1 (by simp)).trans HPY.out; simp [World.cell?, h]) ⟨rfl, fun h => absurd h (by decide), fun _ => World.grownBy.refl _ _⟩
          | 9, ho =>
            obtain rfl := Option.some.inj ho
            refine StepsTo.guarded (wanted_of rfl rfl (show a1.eval (.tmp 104) = .bool false from (ht 6 (by kernel_rfl)))) ?_
            exact StepsTo.move rfl (.tmp 13) (.inl rfl) ⟨(show a1.eval (.tmp 13) = .int .i64 (i : Int) from (hw 13 (by kernel_rfl))), fun h => absurd h (by decide), fun _ => World.grownBy.refl _ _⟩
          | 10, ho =>
            obtain rfl := Option.some.inj ho
            refine StepsTo.guarded (wanted_of rfl rfl (show a1.eval (.tmp 104) = .bool false from (ht 6 (by kernel_rfl)))) ?_
            exact StepsTo.of_run rfl (run_idxR rfl (show a1.eval (.tmp 106) = (.slice (some ⟨b1, o1, none⟩) rn' rc') from (ht 8 (by kernel_rfl))) (show a1.eval (.tmp 107) = .int .i64 (i : Int) from (ht 9 (by kernel_rfl))) (by omega)) ⟨rfl, fun h => absurd h (by decide), fun _ => World.grownBy.refl _ _⟩
          | 11, ho =>
            obtain rfl := Option.some.inj ho
            refine StepsTo.guarded (wanted_of rfl rfl (show a1.eval (.tmp 104) = .bool false from (ht 6 (by kernel_rfl)))) ?_
            have hb := grown_below7 hJ
            exact StepsTo.of_run rfl (run_loadRule rfl (show a1.eval (.tmp 108) = .pointer (some ⟨b1, o1 + i * 3, none⟩) from (ht 10 (by kernel_rfl))) ((hb.cell (p := ⟨b1, o1 + i * 3, none⟩) HBL9.out).trans HC1.out) ((hb.cell (p := ⟨b1, o1 + i * 3 + 1, none⟩) HBL9.out).trans HC2.out) ((hb.cell (p := ⟨b1, o1 + i * 3 + 2, none⟩) HBL9.out).trans HC3.out)) ⟨rfl, fun h => absurd h (by decide), fun _ => World.grownBy.refl _ _⟩
          | 12, ho =>
            obtain rfl := Option.some.inj ho
            refine StepsTo.guarded (wanted_of rfl rfl (show a1.eval (.tmp 104) = .bool false from (ht 6 (by kernel_rfl)))) ?_
            have e1 : a1.eval (.tmp 109) = .agg #[Value.slice ka kn kc, Value.slice ja jn jc, Value.int .u64 C2] := (ht 11 (by kernel_rfl))
            refine StepsTo.enter rfl _ _ (run_fitR rfl e1) (fit7_is ⟨ka, kn, kc, LL, ja, jn, jc, RR, C2⟩ true w1 (HX9.out.below (grown_below7 hJ) (Nat.le_refl _)) HF.out) (fun e w' h => ?_)
            exact ⟨_, h.1, rfl, fun h => absurd h (by decide), fun _ => below_grew7 h.2⟩
          | 13, ho =>
            obtain rfl := Option.some.inj ho
            refine StepsTo.guarded (wanted_of rfl rfl (show a1.eval (.tmp 104) = .bool false from (ht 6 (by kernel_rfl)))) ?_
            exact StepsTo.of_run rfl (run_notB rfl (show a1.eval (.tmp 110) = .bool true from (ht 12 (by kernel_rfl)))) ⟨rfl, fun h => absurd h (by decide), fun _ => World.grownBy.refl _ _⟩
          | 14, ho =>
            obtain rfl := Option.some.inj ho
            exact StepsTo.of_run rfl (run_pick rfl (show a1.eval (.tmp 104) = .bool false from (ht 6 (by kernel_rfl))) rfl (show a1.eval (.tmp 111) = .bool false from (ht 13 (by kernel_rfl)))) ⟨rfl, fun h => absurd h (by decide), fun _ => World.grownBy.refl _ _⟩
          | 15, ho =>
            obtain rfl := Option.some.inj ho
            exact StepsTo.move rfl (.tmp 112) (.inl rfl) ⟨(ht 14 (by kernel_rfl)), fun h => absurd h (by decide), fun _ => World.grownBy.refl _ _⟩
          | 16, ho =>
            obtain rfl := Option.some.inj ho
            refine StepsTo.guarded (wanted_of rfl rfl (show a1.eval (.tmp 113) = .bool false from (ht 15 (by kernel_rfl)))) ?_
            exact StepsTo.of_run rfl (run_faddr 1 (by decide) rfl (show a1.eval (.tmp 16) = .pointer (some ⟨q2.heap.size, 0, none⟩) from (hw 16 (by kernel_rfl)))) ⟨rfl, fun h => absurd h (by decide), fun _ => World.grownBy.refl _ _⟩
          | 17, ho =>
            obtain rfl := Option.some.inj ho
            refine StepsTo.guarded (wanted_of rfl rfl (show a1.eval (.tmp 113) = .bool false from (ht 15 (by kernel_rfl)))) ?_
            exact steps_ldd (ldd_rules ea en ec) rfl (.tmp 114) rfl (ht 16 (by kernel_rfl)) (by have h := (hJ.block _ (Array.getElem?_eq_some_iff.1 HPZ.out).1 (by simp)).trans HPZ.out; simp [World.cell?, h]) ⟨rfl, fun h => absurd h (by decide), fun _ => World.grownBy.refl _ _⟩
          | 18, ho =>
            obtain rfl := Option.some.inj ho
            refine StepsTo.guarded (wanted_of rfl rfl (show a1.eval (.tmp 113) = .bool false from (ht 15 (by kernel_rfl)))) ?_
            exact StepsTo.of_run rfl (run_faddr 1 (by decide) rfl (show a1.eval (.tmp 11) = .pointer (some ⟨v6.heap.size, 0, none⟩) from (hw 11 (by kernel_rfl)))) ⟨rfl, fun h => absurd h (by decide), fun _ => World.grownBy.refl _ _⟩
          | 19, ho =>
            obtain rfl := Option.some.inj ho
            refine StepsTo.guarded (wanted_of rfl rfl (show a1.eval (.tmp 113) = .bool false from (ht 15 (by kernel_rfl)))) ?_
            exact steps_ldd (ldd_rules (some ⟨b1, o1, none⟩) rn' rc') rfl (.tmp 116) rfl (ht 18 (by kernel_rfl)) (by have h := (hJ.block _ (Array.getElem?_eq_some_iff.1 HPY.out).1 (by simp)).trans HPY.out; simp [World.cell?, h]) ⟨rfl, fun h => absurd h (by decide), fun _ => World.grownBy.refl _ _⟩
          | 20, ho =>
            obtain rfl := Option.some.inj ho
            refine StepsTo.guarded (wanted_of rfl rfl (show a1.eval (.tmp 113) = .bool false from (ht 15 (by kernel_rfl)))) ?_
            exact StepsTo.move rfl (.tmp 13) (.inl rfl) ⟨(show a1.eval (.tmp 13) = .int .i64 (i : Int) from (hw 13 (by kernel_rfl))), fun h => absurd h (by decide), fun _ => World.grownBy.refl _ _⟩
          | 21, ho =>
            obtain rfl := Option.some.inj ho
            refine StepsTo.guarded (wanted_of rfl rfl (show a1.eval (.tmp 113) = .bool false from (ht 15 (by kernel_rfl)))) ?_
            exact StepsTo.move rfl (.tmp 13) (.inl rfl) ⟨(show a1.eval (.tmp 13) = .int .i64 (i : Int) from (hw 13 (by kernel_rfl))), fun h => absurd h (by decide), fun _ => World.grownBy.refl _ _⟩
          | 22, ho =>
            obtain rfl := Option.some.inj ho
            refine StepsTo.guarded (wanted_of rfl rfl (show a1.eval (.tmp 113) = .bool false from (ht 15 (by kernel_rfl)))) ?_
            exact StepsTo.of_run rfl (run_addI rfl (show a1.eval (.tmp 119) = .int .i64 (i : Int) from (ht 21 (by kernel_rfl))) (show a1.eval (.const (.int .i64 1)) = .int .i64 1 from rfl) (by omega)) ⟨rfl, fun h => absurd h (by decide), fun _ => World.grownBy.refl _ _⟩
          | 23, ho =>
            obtain rfl := Option.some.inj ho
            refine StepsTo.guarded (wanted_of rfl rfl (show a1.eval (.tmp 113) = .bool false from (ht 15 (by kernel_rfl)))) ?_
            exact StepsTo.of_run rfl (run_sliceR rfl (show a1.eval (.tmp 117) = (.slice (some ⟨b1, o1, none⟩) rn' rc') from (ht 19 (by kernel_rfl))) (show a1.eval (.tmp 118) = .int .i64 (i : Int) from (ht 20 (by kernel_rfl))) (show a1.eval (.tmp 120) = .int .i64 ((i : Int) + 1) from (ht 22 (by kernel_rfl))) (by omega) (by omega) (by omega)) ⟨rfl, fun h => absurd h (by decide), fun _ => World.grownBy.refl _ _⟩
          | 24, ho =>
            obtain rfl := Option.some.inj ho
            refine StepsTo.guarded (wanted_of rfl rfl (show a1.eval (.tmp 113) = .bool false from (ht 15 (by kernel_rfl)))) ?_
            have e1 : a1.eval (.tmp 115) = .slice ea en ec := (ht 17 (by kernel_rfl))
            have e2 : a1.eval (.tmp 121) = .slice (some ⟨b1, o1 + i * 3, none⟩) 1 (rc' - i) := (ht 23 (by kernel_rfl))
            have hb := grown_below7 hJ
            refine StepsTo.enter rfl _ _ (run_sameR rfl e1 e2) (rsames_is ea (some ⟨b1, o1 + i * 3, none⟩) en 1 ec (rc' - i) xs2 ((ys.drop i).take 1) true w1 (HR2.out.below hb (Nat.le_refl _)) ((HR9.out.piece i 1 (by omega)).below hb (Nat.le_refl _)) (by rw [HRU2.out, HPI.out]; simp)) (fun e w' h => ?_)
            exact ⟨_, h.1, rfl, fun h => absurd h (by decide), fun _ => below_grew7 (below_drawn (Below.refl _ _) h.2)⟩
          | 25, ho =>
            obtain rfl := Option.some.inj ho
            refine StepsTo.guarded (wanted_of rfl rfl (show a1.eval (.tmp 113) = .bool false from (ht 15 (by kernel_rfl)))) ?_
            exact StepsTo.of_run rfl (run_notB rfl (show a1.eval (.tmp 122) = .bool true from (ht 24 (by kernel_rfl)))) ⟨rfl, fun h => absurd h (by decide), fun _ => World.grownBy.refl _ _⟩
          | 26, ho =>
            obtain rfl := Option.some.inj ho
            exact StepsTo.of_run rfl (run_pick rfl (show a1.eval (.tmp 113) = .bool false from (ht 15 (by kernel_rfl))) rfl (show a1.eval (.tmp 123) = .bool false from (ht 25 (by kernel_rfl)))) ⟨rfl, fun h => absurd h (by decide), fun _ => World.grownBy.refl _ _⟩
          | j1 + 27, ho => exact absurd (Array.getElem?_eq_some_iff.1 ho).1 (by simp)
        intro tm w9 hsz hJ hfr hto
        rw [act_lit2 tm (show tm.size = 161 from hsz)]
        simp only [List.range, List.range.loop, List.map_cons, List.map_nil]
        rw [hfr 0 (by kernel_rfl), hfr 1 (by kernel_rfl), hfr 2 (by kernel_rfl), hfr 3 (by kernel_rfl), hfr 4 (by kernel_rfl), hfr 5 (by kernel_rfl), hfr 6 (by kernel_rfl), hfr 7 (by kernel_rfl), hfr 8 (by kernel_rfl), hfr 9 (by kernel_rfl), hfr 10 (by kernel_rfl), hfr 11 (by kernel_rfl), hfr 12 (by kernel_rfl), hfr 13 (by kernel_rfl), hfr 14 (by kernel_rfl), hfr 15 (by kernel_rfl), hfr 16 (by kernel_rfl), hfr 17 (by kernel_rfl), hfr 18 (by kernel_rfl), hfr 19 (by kernel_rfl), hfr 20 (by kernel_rfl), hfr 21 (by kernel_rfl), hfr 22 (by kernel_rfl), hfr 23 (by kernel_rfl), hfr 24 (by kernel_rfl), hfr 25 (by kernel_rfl), hfr 26 (by kernel_rfl), hfr 27 (by kernel_rfl), hfr 28 (by kernel_rfl), hfr 29 (by kernel_rfl), hfr 30 (by kernel_rfl), hfr 31 (by kernel_rfl), hfr 32 (by kernel_rfl), hfr 33 (by kernel_rfl), hfr 34 (by kernel_rfl), hfr 35 (by kernel_rfl), hfr 36 (by kernel_rfl), hfr 37 (by kernel_rfl), hfr 38 (by kernel_rfl), hfr 39 (by kernel_rfl), hfr 40 (by kernel_rfl), hfr 41 (by kernel_rfl), hfr 42 (by kernel_rfl), hfr 43 (by kernel_rfl), hfr 44 (by kernel_rfl), hfr 45 (by kernel_rfl), hfr 46 (by kernel_rfl), hfr 47 (by kernel_rfl), hfr 48 (by kernel_rfl), hfr 49 (by kernel_rfl), hfr 50 (by kernel_rfl), hfr 51 (by kernel_rfl), hfr 52 (by kernel_rfl), hfr 53 (by kernel_rfl), hfr 54 (by kernel_rfl), hfr 55 (by kernel_rfl), hfr 56 (by kernel_rfl), hfr 57 (by kernel_rfl), hfr 58 (by kernel_rfl), hfr 59 (by kernel_rfl), hfr 60 (by kernel_rfl), hfr 61 (by kernel_rfl), hfr 62 (by kernel_rfl), hfr 63 (by kernel_rfl), hfr 64 (by kernel_rfl), hfr 65 (by kernel_rfl), hfr 66 (by kernel_rfl), hfr 67 (by kernel_rfl), hfr 68 (by kernel_rfl), hfr 69 (by kernel_rfl), hfr 70 (by kernel_rfl), hfr 71 (by kernel_rfl), hfr 72 (by kernel_rfl), hfr 73 (by kernel_rfl), hfr 74 (by kernel_rfl), hfr 75 (by kernel_rfl), hfr 76 (by kernel_rfl), hfr 77 (by kernel_rfl), hfr 78 (by kernel_rfl), hfr 79 (by kernel_rfl), hfr 80 (by kernel_rfl), hfr 81 (by kernel_rfl), hfr 82 (by kernel_rfl), hfr 83 (by kernel_rfl), hfr 84 (by kernel_rfl), hfr 85 (by kernel_rfl), hfr 86 (by kernel_rfl), hfr 87 (by kernel_rfl), hfr 88 (by kernel_rfl), hfr 89 (by kernel_rfl), hfr 90 (by kernel_rfl), hfr 91 (by kernel_rfl), hfr 92 (by kernel_rfl), hfr 93 (by kernel_rfl), hfr 94 (by kernel_rfl), hfr 95 (by kernel_rfl), hfr 96 (by kernel_rfl), hfr 97 (by kernel_rfl), hfr 125 (by kernel_rfl), hfr 126 (by kernel_rfl), hfr 127 (by kernel_rfl), hfr 128 (by kernel_rfl), hfr 129 (by kernel_rfl), hfr 130 (by kernel_rfl), hfr 131 (by kernel_rfl), hfr 132 (by kernel_rfl), hfr 133 (by kernel_rfl), hfr 134 (by kernel_rfl), hfr 135 (by kernel_rfl), hfr 136 (by kernel_rfl), hfr 137 (by kernel_rfl), hfr 138 (by kernel_rfl), hfr 139 (by kernel_rfl), hfr 140 (by kernel_rfl), hfr 141 (by kernel_rfl), hfr 142 (by kernel_rfl), hfr 143 (by kernel_rfl), hfr 144 (by kernel_rfl), hfr 145 (by kernel_rfl), hfr 146 (by kernel_rfl), hfr 147 (by kernel_rfl), hfr 148 (by kernel_rfl), hfr 149 (by kernel_rfl), hfr 150 (by kernel_rfl), hfr 151 (by kernel_rfl), hfr 152 (by kernel_rfl), hfr 153 (by kernel_rfl), hfr 154 (by kernel_rfl), hfr 155 (by kernel_rfl), hfr 156 (by kernel_rfl), hfr 157 (by kernel_rfl), hfr 158 (by kernel_rfl), hfr 159 (by kernel_rfl), hfr 160 (by kernel_rfl)]
        simp only [Array.getD_eq_getD_getElem?, List.getElem?_toArray, List.getElem?_cons_succ, List.getElem?_cons_zero, Option.getD_some]
        have t0 : (tm[98]?.getD undef) = .int .i64 0 := by have h := hto 0 (by decide); simp only [Array.getD_eq_getD_getElem?] at h; exact h
        have t1 : (tm[99]?.getD undef) = .bool false := by have h := hto 1 (by decide); simp only [Array.getD_eq_getD_getElem?] at h; exact h
        have t2 : (tm[100]?.getD undef) = .bool false := by have h := hto 2 (by decide); simp only [Array.getD_eq_getD_getElem?] at h; exact h
        have t3 : (tm[101]?.getD undef) = .int .i64 0 := by have h := hto 3 (by decide); simp only [Array.getD_eq_getD_getElem?] at h; exact h
        have t4 : (tm[102]?.getD undef) = .bool false := by have h := hto 4 (by decide); simp only [Array.getD_eq_getD_getElem?] at h; exact h
        have t5 : (tm[103]?.getD undef) = .bool false := by have h := hto 5 (by decide); simp only [Array.getD_eq_getD_getElem?] at h; exact h
        have t6 : (tm[104]?.getD undef) = .bool false := by have h := hto 6 (by decide); simp only [Array.getD_eq_getD_getElem?] at h; exact h
        have t7 : (tm[105]?.getD undef) = .pointer (some ⟨v6.heap.size, 1, none⟩) := by have h := hto 7 (by decide); simp only [Array.getD_eq_getD_getElem?] at h; exact h
        have t8 : (tm[106]?.getD undef) = .slice (some ⟨b1, o1, none⟩) rn' rc' := by have h := hto 8 (by decide); simp only [Array.getD_eq_getD_getElem?] at h; exact h
        have t9 : (tm[107]?.getD undef) = .int .i64 (i : Int) := by have h := hto 9 (by decide); simp only [Array.getD_eq_getD_getElem?] at h; exact h
        have t10 : (tm[108]?.getD undef) = .pointer (some ⟨b1, o1 + i * 3, none⟩) := by have h := hto 10 (by decide); simp only [Array.getD_eq_getD_getElem?] at h; exact h
        have t11 : (tm[109]?.getD undef) = .agg #[Value.slice ka kn kc, Value.slice ja jn jc, Value.int .u64 C2] := by have h := hto 11 (by decide); simp only [Array.getD_eq_getD_getElem?] at h; exact h
        have t12 : (tm[110]?.getD undef) = .bool true := by have h := hto 12 (by decide); simp only [Array.getD_eq_getD_getElem?] at h; exact h
        have t13 : (tm[111]?.getD undef) = .bool false := by have h := hto 13 (by decide); simp only [Array.getD_eq_getD_getElem?] at h; exact h
        have t14 : (tm[112]?.getD undef) = .bool false := by have h := hto 14 (by decide); simp only [Array.getD_eq_getD_getElem?] at h; exact h
        have t15 : (tm[113]?.getD undef) = .bool false := by have h := hto 15 (by decide); simp only [Array.getD_eq_getD_getElem?] at h; exact h
        have t16 : (tm[114]?.getD undef) = .pointer (some ⟨q2.heap.size, 1, none⟩) := by have h := hto 16 (by decide); simp only [Array.getD_eq_getD_getElem?] at h; exact h
        have t17 : (tm[115]?.getD undef) = .slice ea en ec := by have h := hto 17 (by decide); simp only [Array.getD_eq_getD_getElem?] at h; exact h
        have t18 : (tm[116]?.getD undef) = .pointer (some ⟨v6.heap.size, 1, none⟩) := by have h := hto 18 (by decide); simp only [Array.getD_eq_getD_getElem?] at h; exact h
        have t19 : (tm[117]?.getD undef) = .slice (some ⟨b1, o1, none⟩) rn' rc' := by have h := hto 19 (by decide); simp only [Array.getD_eq_getD_getElem?] at h; exact h
        have t20 : (tm[118]?.getD undef) = .int .i64 (i : Int) := by have h := hto 20 (by decide); simp only [Array.getD_eq_getD_getElem?] at h; exact h
        have t21 : (tm[119]?.getD undef) = .int .i64 (i : Int) := by have h := hto 21 (by decide); simp only [Array.getD_eq_getD_getElem?] at h; exact h
        have t22 : (tm[120]?.getD undef) = .int .i64 ((i : Int) + 1) := by have h := hto 22 (by decide); simp only [Array.getD_eq_getD_getElem?] at h; exact h
        have t23 : (tm[121]?.getD undef) = .slice (some ⟨b1, o1 + i * 3, none⟩) 1 (rc' - i) := by have h := hto 23 (by decide); simp only [Array.getD_eq_getD_getElem?] at h; exact h
        have t24 : (tm[122]?.getD undef) = .bool true := by have h := hto 24 (by decide); simp only [Array.getD_eq_getD_getElem?] at h; exact h
        have t25 : (tm[123]?.getD undef) = .bool false := by have h := hto 25 (by decide); simp only [Array.getD_eq_getD_getElem?] at h; exact h
        have t26 : (tm[124]?.getD undef) = .bool false := by have h := hto 26 (by decide); simp only [Array.getD_eq_getD_getElem?] at h; exact h
        clear hto
        generalize tm[98]?.getD undef = y98 at *
        generalize tm[99]?.getD undef = y99 at *
        generalize tm[100]?.getD undef = y100 at *
        generalize tm[101]?.getD undef = y101 at *
        generalize tm[102]?.getD undef = y102 at *
        generalize tm[103]?.getD undef = y103 at *
        generalize tm[104]?.getD undef = y104 at *
        generalize tm[105]?.getD undef = y105 at *
        generalize tm[106]?.getD undef = y106 at *
        generalize tm[107]?.getD undef = y107 at *
        generalize tm[108]?.getD undef = y108 at *
        generalize tm[109]?.getD undef = y109 at *
        generalize tm[110]?.getD undef = y110 at *
        generalize tm[111]?.getD undef = y111 at *
        generalize tm[112]?.getD undef = y112 at *
        generalize tm[113]?.getD undef = y113 at *
        generalize tm[114]?.getD undef = y114 at *
        generalize tm[115]?.getD undef = y115 at *
        generalize tm[116]?.getD undef = y116 at *
        generalize tm[117]?.getD undef = y117 at *
        generalize tm[118]?.getD undef = y118 at *
        generalize tm[119]?.getD undef = y119 at *
        generalize tm[120]?.getD undef = y120 at *
        generalize tm[121]?.getD undef = y121 at *
        generalize tm[122]?.getD undef = y122 at *
        generalize tm[123]?.getD undef = y123 at *
        generalize tm[124]?.getD undef = y124 at *
        clear hfr hsz tm
        obtain rfl := t26
        have hb9 := grown_below7 hJ
        have HB9 : Hid (Below w.heap.size w w9) := HBW.out.trans (hb9.mono HBW.out.size)
        have HP9 : Hid (w9.heap[v6.heap.size]? = some (.cells #[.slice ba bn bc, .slice (some ⟨b1, o1, none⟩) rn' rc'] 32 (0, 0))) := (hb9.block _ (Array.getElem?_eq_some_iff.1 HPY.out).1).trans HPY.out
        have HR10 := Lib.hid (HR9.out.below hb9 (Nat.le_refl _))
        clear t0 t1 t2 t3 t4 t5 t6 t7 t8 t9 t10 t11 t12 t13 t14 t15 t16 t17 t18 t19 t20 t21 t22 t23 t24 t25 hJ hb9
        go_wp2
        go_roundw
        case rel => exact ⟨i + 1, by omega, by go_num, HB9.out, HP9.out, HR10.out⟩
        case measure => simp [intOf]; omega
      · obtain rfl : i = rn' := by omega
        have hcy0 : wr.cell? ⟨v6.heap.size, 0, none⟩ = some (.slice ba bn bc) := by simp [World.cell?, HP.out]
        have hor : (E = 0 ∧ bn = 0) ∨ (E = 0 ∧ bn = 4 ∧ i = 0) ∨ ((E == 0) = false ∧ bn = 0 ∧ i = 0) := by
          have hfn := HFN.out.2
          have h1 := HBN.out
          have h2 := HRN.out
          rw [HE.out] at hfn
          by_cases h : E = 0
          · rcases hfn.2 with h3 | ⟨h3, h4⟩
            · exact .inl ⟨h, by rw [h1, h3]; rfl⟩
            · exact .inr (.inl ⟨h, by rw [h1, h3], by rw [h2, h4]; rfl⟩)
          · have h3 := hfn.1 h
            exact .inr (.inr ⟨by simp [h], by rw [h1, h3.1]; rfl, by rw [h2, h3.2]; rfl⟩)
        have hsc0 := HB.out.size
        rcases hor with ⟨rfl, rfl⟩ | ⟨rfl, rfl, rfl⟩ | ⟨hE0, rfl, rfl⟩
        · go_wp2
          go_ret
          exact ⟨rfl, HB.out⟩
        · go_wp2
          go_ret
          exact ⟨rfl, HB.out⟩
        · go_wp2
          go_ret
          exact ⟨rfl, HB.out⟩

set_option maxRecDepth 100000 in
theorem lifted (os : Os) (started : os.Started) (H : Type) (enc : TypeId × Value → H) :
    ReturnsInHanded {} Try.checked os 4 .any (Rows.specBackSpec.pre6 enc Try.prog Try.f4 Rows.specBackRow.domain false) (Rows.specBackSpec.post enc Try.prog Try.f4 false true false false) := by
  refine returnsInHanded_of_change (C := Try.checked) own started (by kernel_rfl) Try.func4
    (ChangeSpec.witness6 (enc := enc) (C := Try.checked) false ⟨#[], #[.slice none 0 0, .agg #[.slice none 0 0, .slice none 0 0, .int .u64 0]], []⟩ 8 (by kernel_rfl) (by kernel_rfl) (by kernel_rfl) (by kernel_rfl)) ?_
  intro W base args ds gs before hval0 hW hcnd _
  have hval : ∀ (j : Nat) t v, Try.f4.params[j]? = some t → args[j]? = some v → Value.okWide Try.prog W .any base t v := hval0
  have hW' := hW
  obtain ⟨p, q, hA0, hV, rfl, hfz, hnd⟩ := hW
  have hA : DataW.TrodAll enc Try.prog W 0 (fun _ => true) true Try.f4.params.toList args.toList ds p := hA0
  rw [Try.params4] at hA hval
  obtain ⟨v0, vs0, d0, ds0, p0, q0, hargs, rfl, rfl, h0, r0⟩ := trodAll_cons hA
  obtain ⟨v1, vs1, d1, ds1, p1, q1, rfl, rfl, rfl, h1, r1⟩ := trodAll_cons r0
  obtain ⟨rfl, rfl, rfl⟩ := trodAll_nil r1
  obtain rfl : args = #[v0, v1] := by cases args; simp_all
  obtain ⟨rfl, rfl⟩ := trodVars_none hV
  obtain ⟨a0, len0, cap0, rfl⟩ := okWide_slice Try.underlying22 (hval 0 22 v0 rfl rfl)
  have k0 := h0
  have lt0 : ∀ x ∈ p0, x.block < W.heap.size := by obtain ⟨m, hm⟩ := k0; exact DataW.trod_lt m _ _ _ hm
  obtain ⟨z0, w0⟩ : ∃ zs, IsRow .u8 W a0 len0 cap0 zs := by
    obtain ⟨fuel, hf⟩ := h0
    rcases open_ints Try.underlying22 Try.underlying5 (by kernel_rfl) hf with ⟨hcs, _⟩ | ⟨x, l, c, zs, hcs, _, hl, hm, hz, _, hcell, hwz⟩
    · simp [Value.cells] at hcs
      obtain ⟨rfl, rfl, rfl⟩ := hcs
      exact ⟨[], .inl ⟨rfl, rfl, rfl, rfl⟩⟩
    · simp [Value.cells] at hcs
      obtain ⟨rfl, rfl, rfl⟩ := hcs
      exact ⟨zs, .inr ⟨_, rfl, hl, hm, by simpa using hz, hcell, hwz⟩⟩
  have k1 := h1
  have lt1 : ∀ x ∈ p1, x.block < W.heap.size := by obtain ⟨m, hm⟩ := k1; exact DataW.trod_lt m _ _ _ hm
  obtain ⟨x1, rfl, w1⟩ := Rw.open (hval 1 26 v1 rfl rfl) h1
  clear hA0 hval0
  refine (walk a0 len0 cap0 z0 x1 W w0 w1).mono fun e W' ⟨he, bel⟩ => ?_
  subst he
  exact ⟨_, rfl, _, _, _, [], _, [], hW', trodAll_mk1 (shut_bool Try.underlying4 _), (trodAll_cons_mk (Below.trod laidOut (by kernel_rfl) (of_decide_eq_true (by kernel_rfl)) k0 bel lt0) (trodAll_cons_mk (Below.trod laidOut (by kernel_rfl) (of_decide_eq_true (by kernel_rfl)) k1 bel lt1) trodAll_mk0)), rfl, bel.frame _, fun h => by cases h⟩

theorem over : Rows.specBackRow.holds Try.pinned (OpenSpec.ofChange Rows.specBackSpec) :=
  OpenClaim.holds_of_wide 4 Try.f4 rfl rfl rfl rfl rfl rfl rfl ⟨rfl, rfl, rfl, rfl, rfl⟩ rfl rfl rfl rfl rfl (by kernel_rfl) Try.func4 (by kernel_rfl)
    (of_decide_eq_true (by kernel_rfl)) (by unfold Func.isWrapper; first | (rw [if_pos (by decide +kernel)]; kernel_rfl) | (rw [if_neg (by decide +kernel)]; exact ⟨rfl, rfl⟩))
    (fun os started H enc _ => lifted os started H enc)

/-- the statement -/
theorem proved : Rows.SpecBackSaid := over
#print axioms proved
end Go.Proofs.Ytdeicfdbjmpliaa.specBack
