/- For every list of words, and every byte, OrderSorts answers true, and turns nothing that was there. No condition. -/
import Derived.Test.YtooefnihmckinaaRows
import Derived.Test.YtooefnihmckinaaOrderAwake
import Derived.Test.YtooefnihmckinaaOrderRefA
import Derived.WalkKit
import Derived.ProofKit
import Derived.OpenShut
import Derived.ShutString
import Derived.ChangeOld
import Derived.Below
import Derived.Deep.Matrix
namespace Go.Proofs.Ytooefnihmckinaa.orderSorts
open Go.ChangeShapes Go.WideShapes Go.ChangeAt Go.RowKit
set_option linter.unusedVariables false

theorem own : ownKnob Try.prog.godebug = none := by kernel_rfl
theorem laidOut : laidOutB Try.prog = true := by kernel_rfl

/-- a slice of integers that came in -/
def IsRow (k : IntKind) (w : World) (a : Option Addr) (len cap : Nat) (zs : List Int) : Prop :=
  (a = none ∧ len = 0 ∧ cap = 0 ∧ zs = []) ∨
  ∃ x, a = some x ∧ len ≤ cap ∧ cap ≤ maxLen ∧ zs.length = cap ∧ (∀ i, i < zs.length → w.cell? (x.add i) = some (.int k (zs.getD i 0))) ∧ ∀ n ∈ zs, (Lit.int k n).wf = true

/-- the words, turned round by f -/
def rot (xs : List Wd) (f n j : Nat) : List Wd := (List.range j).map fun i => xs.getD ((i + f) % n) Wd.no
theorem rot_length (xs : List Wd) (f n j : Nat) : (rot xs f n j).length = j := by simp [rot]
theorem rot_succ (xs : List Wd) (f n j : Nat) : rot xs f n (j + 1) = rot xs f n j ++ [xs.getD ((j + f) % n) Wd.no] := by simp [rot, List.range_succ]
theorem rot_mem {xs : List Wd} {f n : Nat} (h : xs.length = n) (z : List Int) : z ∈ nums (rot xs f n n) ↔ z ∈ nums xs := by
  simp only [nums, rot, List.mem_map, List.mem_range]
  constructor
  · rintro ⟨x, ⟨i, hi, rfl⟩, rfl⟩
    have hlt : (i + f) % n < xs.length := by rw [h]; exact Nat.mod_lt _ (by omega)
    refine ⟨_, ?_, rfl⟩
    rw [List.getD_eq_getElem?_getD, List.getElem?_eq_getElem hlt, Option.getD_some]
    exact List.getElem_mem hlt
  · rintro ⟨x, hx, rfl⟩
    obtain ⟨i, hi, rfl⟩ := List.mem_iff_getElem.1 hx
    have hn : 0 < n := by omega
    refine ⟨_, ⟨(i + (n - f % n)) % n, Nat.mod_lt _ hn, rfl⟩, ?_⟩
    have e : ((i + (n - f % n)) % n + f) % n = i := by
      have h1 : f % n < n := Nat.mod_lt _ hn
      have h2 : n * (f / n) + f % n = f := Nat.div_add_mod f n
      rw [Nat.mod_add_mod]
      have h3 : i + (n - f % n) + f = i + n * (f / n + 1) := by
        rw [Nat.mul_add, Nat.mul_one]; omega
      rw [h3, Nat.add_mul_mod_self_left]
      exact Nat.mod_eq_of_lt (by omega)
    rw [e]
    simp [hi]
theorem rot_good {w : World} {a : Option Addr} {n cap f j : Nat} {xs : List Wd} (h : Ws w a n cap xs) : ∀ x ∈ rot xs f n j, x.Good w := by
  intro x hx
  obtain ⟨i, _, rfl⟩ := List.mem_map.1 hx
  exact h.good _
theorem rot_short {xs : List Wd} {f n j : Nat} (h : Short xs) : Short (rot xs f n j) := by
  intro x hx
  obtain ⟨i, _, rfl⟩ := List.mem_map.1 hx
  rw [List.getD_eq_getElem?_getD]
  cases hq : xs[(i + f) % n]? with
  | none => exact Nat.zero_le _
  | some y => exact h y (List.mem_of_getElem? hq)

/-! ### STEP 1: the walk -/
set_option maxRecDepth 100000 in
set_option maxHeartbeats 4000000 in
theorem walk (a0 : Option Addr) (len0 cap0 : Nat) (x0 : List Wd) (a1 : Int) (w : World) (w0 : Ws w a0 len0 cap0 x0) (n0 : a0 = none → cap0 = 0) (w1 : (Lit.int .u8 a1).wf = true) :
    Calls Try.prog 5 #[.slice a0 len0 cap0, .int .u8 a1] w fun e w' => e = .returned (.bool true) ∧ Below w.heap.size w w' := by
  have hcm0 := w0.2.2.1
  have hnc0 := w0.2.1
  unfold maxLen at hcm0
  have HX := Lib.hid w0
  have HN0 := Lib.hid n0
  have hw1 := bounds_u8 w1
  obtain ⟨hf0, hf1⟩ := hw1
  clear w0 n0
  go_enter Try.func5, Try.ntmps5
  go_wp2_with fail
  refine (awake_any _).mono ?_
  rintro e w2 ⟨rfl, B1⟩
  have X1 := Lib.hid (HX.out.below B1 (Nat.le_refl _))
  go_wp2_with fail
  refine (few_any _ _ _ _ _ X1.out).mono ?_
  rintro e w3 ⟨he, rfl⟩
  rcases he with rfl | ⟨rfl, hshort, hn200⟩
  · go_wp2
    go_ret
    exact ⟨rfl, B1⟩
  have HSH := Lib.hid hshort
  clear hshort
  go_wp2_with fail
  refine (sort_any _ _ _ x0 _ X1.out HSH.out (by omega)).mono ?_
  rintro e w3 ⟨sa, sm, sc, ys, rfl, hys, hnum, hsnil, hssh, hb3⟩
  have B3 := B1.trans (hb3.mono B1.size)
  have X3 := Lib.hid (X1.out.below hb3 (Nat.le_refl _))
  have YS := Lib.hid hys
  have HNUM := Lib.hid hnum
  have HSSH := Lib.hid hssh
  have hsm : sm ≤ len0 := by rw [← hys.1, ← nums_length, hnum]; have := srt_length (nums x0); rw [nums_length, HX.out.1] at this; exact this
  have HR : Hid (Rise (nums ys)) := by show Rise _; rw [hnum]; exact rise_srt _
  have HMEM : Hid (∀ z, z ∈ nums ys ↔ z ∈ nums x0) := by intro z; rw [hnum, mem_srt]
  have hscm := hys.2.2.1
  have hsnc := hys.2.1
  unfold maxLen at hscm
  clear hys hnum hsnil hssh hb3 B1 X1
  obtain ⟨f, rfl⟩ : ∃ f : Nat, a1 = (f : Int) := ⟨a1.toNat, by omega⟩
  have hf2 : f ≤ 255 := by omega
  go_wp2
  go_loopw [7, 8] (fun tv ix wr => ∃ (j : Nat) (a' : Option Addr) (c' : Nat), j ≤ len0 ∧ ix = .int .i64 (j : Int) ∧ tv = .slice a' j c' ∧ Hid (wr.ownsRow w3.heap.size 23 1 (.slice a' j c') j (vals (rot x0 f len0 j))) ∧ Below w3.heap.size w3 wr) (fun _ ix _ => len0 - (intOf ix).toNat)
  case atStart => exact ⟨0, none, 0, Nat.zero_le _, rfl, rfl, owns_nil_words _ _, Below.refl _ _⟩
  case round =>
    obtain ⟨j, a', c', hj, rfl, rfl, HO, hbr⟩ := hrel
    by_cases hlt : j < len0
    · have XR := X3.out.below hbr (Nat.le_refl _)
      obtain ⟨p, hp⟩ : ∃ p, (j + f) % len0 = p := ⟨_, rfl⟩
      have hpl : p < len0 := by rw [← hp]; exact Nat.mod_lt _ (by omega)
      obtain ⟨b1, o1, a3, n3, c3, z3, rfl, _, hx3, hx1, hs1, _⟩ := XR.one p hpl
      obtain ⟨b2, o2, a4, n4, c4, z4, hb2, hblt, hx4, hx2, hs2, hz4⟩ := X3.out.one j hlt
      simp only [Option.some.injEq, Addr.mk.injEq, and_true] at hb2
      obtain ⟨rfl, rfl⟩ := hb2
      have htm : ((j : Int) + (f : Int)).tmod (len0 : Int) = (p : Int) := by
        rw [← hp, Int.tmod_eq_emod_of_nonneg (by omega), Int.natCast_emod, Int.natCast_add]
      have hlti : (j : Int) < (len0 : Int) := by omega
      have hpi : (p : Int) < (len0 : Int) := by omega
      have hl0 : ¬ (len0 : Int) = 0 := by omega
      have hl1 : ¬ len0 = 0 := by omega
      have hzr := hbr.size
      have hXl := HX.out.1
      have hin : decide (z4 ∈ nums ys) = true := by
        rw [decide_eq_true_iff, HMEM.out, ← hz4, List.getD_eq_getElem?_getD, List.getElem?_eq_getElem (by rw [nums_length, hXl]; exact hlt), Option.getD_some]
        exact List.getElem_mem _
      have HIN := Lib.hid hin
      have HX3 := Lib.hid hx3
      have HS1 := Lib.hid hs1
      have HS2 := Lib.hid hs2
      have HP := Lib.hid hp
      clear hin hx3 hs1 hs2 hp hx4 hz4 hXl
      go_wp2_with (first
        | (at_builtin; refine append_words rfl (.tmp 29) (.tmp 40) (by rfl) w3.heap.size _ j (rot x0 f len0 j) (by rfl) (HO.out.alloc _) (some ⟨wr.heap.size, 0, none⟩) 1 1 [⟨a3, n3, c3, z3⟩] (by rfl) (Ws.newc _ (by intro x hx; simp only [List.mem_singleton] at hx; subst hx; exact HS1.out) (by show 1 ≤ maxLen; unfold maxLen; omega) rfl rfl rfl) (fun h => by cases h) (j + 1) (by rfl) (by omega) (by simp; omega) ?_; intro a5 c5 w5 hown5 hb5 hnil5; have B5 : Below w3.heap.size w3 w5 := (hbr.alloc hzr _).trans hb5; have HO5 : Hid (w5.ownsRow w3.heap.size 23 1 (.slice a5 (j + 1) c5) (j + 1) (vals (rot x0 f len0 (j + 1)))) := (by rw [rot_succ, HP.out, HX3.out]; exact hown5); have Y5 := Lib.hid (YS.out.below B5 (Nat.le_refl _)); have hx7 : w5.cell? ⟨b1, o1 + j, none⟩ = some (.slice a4 n4 c4) := (B5.cell (p := ⟨b1, o1 + j, none⟩) hblt).trans hx2; have Z5 := Lib.hid (HS2.out.below B5 (Nat.le_refl _)))
        | fail)
      refine (find_is _ _ _ _ _ _ ys z4 _ true _ Y5.out Z5.out HR.out rfl HIN.out (by omega)).mono ?_
      rintro e w6 ⟨rfl, hb6⟩
      go_wp2
      go_roundw
      case rel => exact ⟨j + 1, a5, c5, by omega, by go_num, rfl, ownsRow_below HO5.out hb6 (Nat.le_refl _), B5.trans (hb6.mono B5.size)⟩
      case measure => simp [intOf]; omega
    · obtain rfl : j = len0 := by omega
      obtain ⟨w5, hw5⟩ : ∃ w5, w5 = wr := ⟨_, rfl⟩
      subst hw5
      have HW5 : Hid (Ws w5 a' j c' (rot x0 f j j)) := Ws.of_owns HO.out (rot_good (X3.out.below hbr (Nat.le_refl _))) (rot_length _ _ _ _)
      have Y5 := Lib.hid (YS.out.below hbr (Nat.le_refl _))
      have X5 := Lib.hid (X3.out.below hbr (Nat.le_refl _))
      have B5 : Below w.heap.size w w5 := B3.trans (hbr.mono B3.size)
      clear HO hbr B3 X3 YS
      go_wp2
      go_loopw [11] (fun ix wv => ∃ i : Nat, i ≤ sm ∧ ix = .int .i64 (i : Int) ∧ Hid (Below w5.heap.size w5 wv)) (fun ix _ => sm - (intOf ix).toNat)
      case atStart => exact ⟨0, Nat.zero_le _, rfl, Below.refl _ _⟩
      case round =>
        obtain ⟨i, hi, rfl, HB6⟩ := hrel
        obtain ⟨wv, hwv⟩ : ∃ wv, wv = wr := ⟨_, rfl⟩
        subst hwv
        by_cases hlt : i < sm
        · obtain ⟨b1, o1, a3, n3, c3, z3, rfl, _, _, hx1, hs1, hz1⟩ := (Y5.out.below HB6.out (Nat.le_refl _)).one i hlt
          have hyl := Y5.out.1
          have hown := HR.out.own (i := i) (by rw [nums_length, hyl]; exact hlt)
          have hmem : z3 ∈ nums ys := by
            rw [← hz1, List.getD_eq_getElem?_getD, List.getElem?_eq_getElem (by rw [nums_length, hyl]; exact hlt), Option.getD_some]
            exact List.getElem_mem _
          rw [hz1] at hown
          have hin : decide (z3 ∈ nums ys) = true := by simpa using hmem
          have HIN := Lib.hid hin
          have HIX : Hid (decide (z3 ∈ nums x0) = true) := by show _ = _; rw [decide_eq_true_iff, ← HMEM.out]; exact hmem
          have HOWN := Lib.hid hown
          have HS1 := Lib.hid hs1
          have HZ1 := Lib.hid hz1
          have Y6 := Lib.hid (Y5.out.below HB6.out (Nat.le_refl _))
          have X6 := Lib.hid (X5.out.below HB6.out (Nat.le_refl _))
          have hlti : (i : Int) < (sm : Int) := by omega
          clear hyl hown hmem hin hs1 hz1
          go_wp2_with fail
          refine (find_is _ _ _ _ _ _ ys z3 i true _ Y6.out HS1.out HR.out HOWN.out HIN.out (by omega)).mono ?_
          rintro e w7 ⟨rfl, hb7⟩
          have Y7 := Lib.hid (Y6.out.below hb7 (Nat.le_refl _))
          have X7 := Lib.hid (X6.out.below hb7 (Nat.le_refl _))
          have HB7 : Hid (Below w5.heap.size w5 w7) := HB6.out.trans (hb7.mono HB6.out.size)
          have HS7 := Lib.hid (HS1.out.below hb7 (Nat.le_refl _))
          clear Y6 X6 HB6 HS1 hb7 hx1
          go_wp2
          go_loopw [14, 15] (fun hv kx wu => ∃ (k : Nat) (g : Bool), k ≤ j ∧ kx = .int .i64 (k : Int) ∧ hv = .bool g ∧ Hid (decide (z3 ∈ (nums x0).take k) = g) ∧ Hid (∃ q, wu = w7.drewN q)) (fun _ kx _ => j - (intOf kx).toNat)
          case atStart => exact ⟨0, false, Nat.zero_le _, rfl, rfl, (by show decide _ = _; simp), ⟨0, rfl⟩⟩
          case round =>
            obtain ⟨k, g, hk, rfl, rfl, HG, HQ⟩ := hrel
            obtain ⟨wu, hwu⟩ : ∃ wu, wu = wr := ⟨_, rfl⟩
            subst hwu
            by_cases hkl : k < j
            · obtain ⟨b2, o2, a4, n4, c4, z4, rfl, _, _, hx4, hs4, hz4⟩ := (X7.out.drawn HQ.out).one k hkl
              obtain ⟨b5, o5, a5, n5, c5, z5, hb5, _, _, hx5, hs5, hz5⟩ := (Y7.out.drawn HQ.out).one i hlt
              simp only [Option.some.injEq, Addr.mk.injEq, and_true] at hb5
              obtain ⟨rfl, rfl⟩ := hb5
              have e5 : z5 = z3 := by rw [← hz5, HZ1.out]
              subst e5
              have hmm := mem_snoc (w := z5) (by rw [nums_length, X7.out.1]; exact hkl) hz4
              rw [HG.out] at hmm
              obtain ⟨re, hre⟩ : ∃ re, decide (z4 = z5) = re := ⟨_, rfl⟩
              rw [hre] at hmm
              have HRE := Lib.hid hre
              have HMM := Lib.hid hmm
              have HS4 := Lib.hid hs4
              have HS5 := Lib.hid hs5
              have hki : (k : Int) < (j : Int) := by omega
              clear hmm hre hs4 hs5 hz4 hz5 HG
              cases g
              · go_wp2
                go_quiet ((go_at_call 20; exact Calls.quiet_of (same_is _ _ _ _ _ _ z4 z5 re _ (HS4.out.drewN _) (HS5.out.drewN _) HRE.out)))
                go_wp2
                go_roundw
                case rel => exact ⟨k + 1, re, by omega, by go_num, rfl, HMM.out.trans (by simp), (by obtain ⟨q, hq⟩ := HQ.out; exact ⟨_, by rw [hq, World.drewN_drewN]⟩)⟩
                case measure => simp [intOf]; omega
              · go_wp2
                go_quiet (fail)
                go_wp2
                go_roundw
                case rel => exact ⟨k + 1, true, by omega, by go_num, rfl, HMM.out.trans (by simp), (by obtain ⟨q, hq⟩ := HQ.out; exact ⟨_, by rw [hq, World.drewN_drewN]⟩)⟩
                case measure => simp [intOf]; omega
            · obtain rfl : k = j := by omega
              have hg : g = true := by
                rw [← HG.out, List.take_of_length_le (by rw [nums_length, X7.out.1]; omega)]; exact HIX.out
              subst hg
              have Y8 := Lib.hid (Y7.out.drawn HQ.out)
              have HB8 : Hid (Below w5.heap.size w5 wu) := below_drawn HB7.out HQ.out
              clear HG HQ
              have hne : ((i : Int) != (i : Int)) = false := by simp
              have heq : ((i : Int) == (i : Int)) = true := by simp
              rcases Nat.eq_zero_or_pos i with rfl | hip
              · have h0 : decide ((0 : Int) < ((0 : Nat) : Int)) = false := by simp
                have h00 : decide ((0 : Int) < 0) = false := by simp
                go_wp2
                go_quiet (fail)
                go_wp2
                go_roundw
                case rel => exact ⟨1, by omega, by go_num, below_drewN HB8.out _⟩
                case measure => simp [intOf]; omega
              · obtain ⟨p, rfl⟩ : ∃ p, i = p + 1 := ⟨i - 1, by omega⟩
                have h0 : decide ((0 : Int) < ((p + 1 : Nat) : Int)) = true := by rw [decide_eq_true_iff]; omega
                have h00 : decide ((0 : Int) < (p : Int) + 1) = true := by rw [decide_eq_true_iff]; omega
                have h01 : (0 : Int) < (p : Int) + 1 := by omega
                have hp1 : (p : Int) < (sm : Int) := by omega
                have hp2 : (p : Int) + 1 < (sm : Int) := by omega
                obtain ⟨b2, o2, a4, n4, c4, z4, hb4, _, _, hx4, hs4, hz4⟩ := Y8.out.one p (by omega)
                obtain ⟨b5, o5, a5, n5, c5, z5, hb5, _, _, hx5, hs5, hz5⟩ := Y8.out.one (p + 1) (by omega)
                simp only [Option.some.injEq, Addr.mk.injEq, and_true] at hb4 hb5
                obtain ⟨rfl, rfl⟩ := hb4
                obtain ⟨rfl, rfl⟩ := hb5
                have hls : lessL z4 z5 = true := by rw [← hz4, ← hz5]; exact HR.out.at (Nat.lt_succ_self p) (by rw [nums_length, Y8.out.1]; exact hlt)
                have HLS := Lib.hid hls
                have HS4 := Lib.hid hs4
                have HS5 := Lib.hid hs5
                clear hls hs4 hs5 hz4 hz5
                go_wp2
                go_quiet ((go_at_call 16; exact Calls.quiet_of (less_is _ _ _ _ _ _ z4 z5 true _ (HS4.out.drewN _) (HS5.out.drewN _) HLS.out)))
                go_wp2
                go_roundw
                case rel => exact ⟨p + 1 + 1, by omega, by go_num, below_drewN HB8.out _⟩
                case measure => simp [intOf]; omega
        · obtain rfl : i = sm := by omega
          have Y9 := Lib.hid (Y5.out.below HB6.out (Nat.le_refl _))
          have X9 := Lib.hid (X5.out.below HB6.out (Nat.le_refl _))
          have T9 := Lib.hid (HW5.out.below HB6.out (Nat.le_refl _))
          have B9 : Below w.heap.size w wv := B5.trans (HB6.out.mono B5.size)
          have HST : Hid (srt (nums (rot x0 f j j)) = nums ys) := by
            show _ = _
            rw [srt_congr (fun z => rot_mem (HX.out.1) z), HNUM.out]
          have HSS : Hid (srt (nums ys) = nums ys) := srt_rise HR.out
          have hle : (i : Int) ≤ (j : Int) := by omega
          clear HB6 HW5 Y5 X5 B5
          go_wp2_with fail
          refine (sort_any _ _ _ ys _ Y9.out HSSH.out (by omega)).mono ?_
          rintro e w10 ⟨a10, m10, c10, ys2, rfl, hy2, hn2, _, _, hb10⟩
          have YY := Lib.hid hy2
          have HYY : Hid (decide (nums ys2 = nums ys) = true) := by show _ = _; rw [hn2, HSS.out]; simp
          have Y10 := Lib.hid (Y9.out.below hb10 (Nat.le_refl _))
          have T10 := Lib.hid (T9.out.below hb10 (Nat.le_refl _))
          have B10 : Below w.heap.size w w10 := B9.trans (hb10.mono B9.size)
          clear hy2 hn2 hb10 B9 Y9 X9 T9
          go_wp2_with fail
          refine (sames_is _ _ _ _ _ _ ys2 ys true _ YY.out Y10.out HYY.out).mono ?_
          rintro e w11 ⟨rfl, hq11⟩
          have Y11 := Lib.hid (Y10.out.drawn hq11)
          have T11 := Lib.hid (T10.out.drawn hq11)
          have B11 := below_drawn B10 hq11
          clear hq11 Y10 T10 B10 YY HYY
          go_wp2_with fail
          refine (sort_any _ _ _ (rot x0 f j j) _ T11.out (rot_short HSH.out) (by omega)).mono ?_
          rintro e w12 ⟨a12, m12, c12, ys3, rfl, hy3, hn3, _, _, hb12⟩
          have YY := Lib.hid hy3
          have HYY : Hid (decide (nums ys3 = nums ys) = true) := by show _ = _; rw [hn3, HST.out]; simp
          have Y12 := Lib.hid (Y11.out.below hb12 (Nat.le_refl _))
          have B12 : Below w.heap.size w w12 := B11.trans (hb12.mono B11.size)
          clear hy3 hn3 hb12 B11 Y11 T11
          go_wp2_with fail
          refine (sames_is _ _ _ _ _ _ ys3 ys true _ YY.out Y12.out HYY.out).mono ?_
          rintro e w13 ⟨rfl, hq13⟩
          have B13 := below_drawn B12 hq13
          clear hq13
          go_wp2
          go_ret
          exact ⟨by first | rfl | simp, B13⟩

set_option maxRecDepth 100000 in
theorem lifted (os : Os) (started : os.Started) (H : Type) (enc : TypeId × Value → H) :
    ReturnsInHanded {} Try.checked os 5 .any (Rows.orderSortsSpec.pre6 enc Try.prog Try.f5 Rows.orderSortsRow.domain false) (Rows.orderSortsSpec.post enc Try.prog Try.f5 false true false false) := by
  refine returnsInHanded_of_change (C := Try.checked) own started (by kernel_rfl) Try.func5
    (ChangeSpec.witness6 (enc := enc) (C := Try.checked) false ⟨#[], #[.slice none 0 0, .int .u8 0], []⟩ 8 (by kernel_rfl) (by kernel_rfl) (by kernel_rfl) (by kernel_rfl)) ?_
  intro W base args ds gs before hval0 hW hcnd _
  have hval : ∀ (j : Nat) t v, Try.f5.params[j]? = some t → args[j]? = some v → Value.okWide Try.prog W .any base t v := hval0
  have hW' := hW
  obtain ⟨p, q, hA0, hV, rfl, hfz, hnd⟩ := hW
  have hA : DataW.TrodAll enc Try.prog W 0 (fun _ => true) true Try.f5.params.toList args.toList ds p := hA0
  rw [Try.params5] at hA hval
  obtain ⟨v0, vs0, d0, ds0, p0, q0, hargs, rfl, rfl, h0, r0⟩ := trodAll_cons hA
  obtain ⟨v1, vs1, d1, ds1, p1, q1, rfl, rfl, rfl, h1, r1⟩ := trodAll_cons r0
  obtain ⟨rfl, rfl, rfl⟩ := trodAll_nil r1
  obtain rfl : args = #[v0, v1] := by cases args; simp_all
  obtain ⟨rfl, rfl⟩ := trodVars_none hV
  obtain ⟨a0, len0, cap0, rfl⟩ := okWide_slice Try.underlying22 (hval 0 22 v0 rfl rfl)
  have k0 := h0
  have lt0 : ∀ x ∈ p0, x.block < W.heap.size := by obtain ⟨m, hm⟩ := k0; exact DataW.trod_lt m _ _ _ hm
  obtain ⟨x0, w0, n0⟩ : ∃ xs, Ws W a0 len0 cap0 xs ∧ (a0 = none → cap0 = 0) := by
    obtain ⟨fuel, hf⟩ := h0
    rcases Go.Deep.open_int_rows Try.underlying22 Try.underlying23 Try.underlying3 (by kernel_rfl) (by kernel_rfl) hf with ⟨hcs, _⟩ | ⟨x, l, c, A, L, C, Z, hcs, _, hl, hm, _, hr⟩
    · simp [Value.cells] at hcs
      obtain ⟨rfl, rfl, rfl⟩ := hcs
      exact ⟨[], Ws.nil, fun _ => rfl⟩
    · simp [Value.cells] at hcs
      obtain ⟨rfl, rfl, rfl⟩ := hcs
      exact ⟨_, Ws.of_rows hl hm hr, fun h => by cases h⟩
  obtain ⟨a1, rfl, rfl, rfl, w1⟩ := open_int Try.underlying5 (hval 1 5 v1 rfl rfl) h1
  clear hA0 hval0
  refine (walk a0 len0 cap0 x0 a1 W w0 n0 w1).mono fun e W' ⟨he, bel⟩ => ?_
  subst he
  exact ⟨_, rfl, _, _, _, [], _, [], hW', trodAll_mk1 (shut_bool Try.underlying4 _), (trodAll_cons_mk (Below.trod laidOut (by kernel_rfl) (of_decide_eq_true (by kernel_rfl)) k0 bel lt0) (trodAll_cons_mk (shut_int Try.underlying5 w1) trodAll_mk0)), rfl, bel.frame _, fun h => by cases h⟩

theorem over : Rows.orderSortsRow.holds Try.pinned (OpenSpec.ofChange Rows.orderSortsSpec) :=
  OpenClaim.holds_of_wide 5 Try.f5 rfl rfl rfl rfl rfl rfl rfl ⟨rfl, rfl, rfl, rfl, rfl⟩ rfl rfl rfl rfl rfl (by kernel_rfl) Try.func5 (by kernel_rfl)
    (of_decide_eq_true (by kernel_rfl)) (by unfold Func.isWrapper; first | (rw [if_pos (by decide +kernel)]; kernel_rfl) | (rw [if_neg (by decide +kernel)]; exact ⟨rfl, rfl⟩))
    (fun os started H enc _ => lifted os started H enc)

/-- the statement -/
theorem proved : Rows.OrderSortsSaid := over
#print axioms proved
end Go.Proofs.Ytooefnihmckinaa.orderSorts
