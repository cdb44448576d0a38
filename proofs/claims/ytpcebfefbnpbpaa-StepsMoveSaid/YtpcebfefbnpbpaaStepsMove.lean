/- For all costs, whatever was asked, and any place, StepsMove answers true, and turns nothing that was there. No condition. -/
import Derived.Test.YtpcebfefbnpbpaaRows
import Derived.Test.YtpcebfefbnpbpaaStpLaw
import Derived.Test.YtpcebfefbnpbpaaPackN
import Derived.WalkKit
import Derived.ProofKit
import Derived.OpenShut
import Derived.ShutString
import Derived.ChangeOld
import Derived.Below
import Derived.Deep.Matrix
import Derived.SizedLaws
set_option linter.all false
set_option maxRecDepth 100000
set_option maxHeartbeats 12800000
namespace Go.Proofs.Ytpcebfefbnpbpaa.stepsMove
open Go.ChangeShapes Go.WideShapes Go.ChangeAt Go.RowKit
set_option linter.unusedVariables false

theorem own : ownKnob Try.prog.godebug = none := by kernel_rfl
theorem laidOut : laidOutB Try.prog = true := by kernel_rfl

/-- a slice of integers that came in -/
def IsRow (k : IntKind) (w : World) (a : Option Addr) (len cap : Nat) (zs : List Int) : Prop :=
  (a = none ∧ len = 0 ∧ cap = 0 ∧ zs = []) ∨
  ∃ x, a = some x ∧ len ≤ cap ∧ cap ≤ maxLen ∧ zs.length = cap ∧ (∀ i, i < zs.length → w.cell? (x.add i) = some (.int k (zs.getD i 0))) ∧ ∀ n ∈ zs, (Lit.int k n).wf = true

theorem walk (x0 : Cw) (a1 : Option Addr) (len1 cap1 : Nat) (z1 : List Int) (a2 : Int) (w : World) (w0 : x0.Good w) (n0 : x0.a = none → x0.cap = 0) (w1 : IsRow .i64 w a1 len1 cap1 z1) (w2 : (Lit.int .i64 a2).wf = true) :
    Calls Try.prog 4 #[x0.v, .slice a1 len1 cap1, .int .i64 a2] w fun e w' => e = .returned (.bool true) ∧ Below w.heap.size w w' := by
  have hs1 := Sl.of_row w1
  generalize z1.take len1 = zs at hs1
  have hnc1 := hs1.2.1
  have hcm1 := hs1.2.2.1
  unfold maxLen at hcm1
  have HQ := Lib.hid hs1
  have HQL : Hid (zs.length = len1) := Lib.hid hs1.1
  clear hs1 w1
  have hi2 := bounds_i64 w2
  clear w2
  obtain ⟨cm, cl, co, ct, ra, rn, rcap, xs⟩ := x0
  have HC := Lib.hid w0
  have hrc := w0.1.2.1
  have hrm := w0.1.2.2.1
  unfold maxLen at hrm
  have HRL : Hid (xs.length = rn) := Lib.hid w0.1.1
  clear w0 n0
  obtain ⟨W0, hW0⟩ : ∃ W, W = w.alloc (.cells #[.int .u64 cm, .int .u64 cl, .int .u64 co, .int .u64 ct, .slice ra rn rcap] 25) := ⟨_, rfl⟩
  have HWB : Hid (Below w.heap.size w W0) := Lib.hid (by rw [hW0]; exact (Below.refl _ w).alloc (Nat.le_refl _) _)
  have HKP : Hid (∀ W, Below W0.heap.size W0 W → W.cell? ⟨w.heap.size, 0, none⟩ = some (.int .u64 cm) ∧ W.cell? ⟨w.heap.size, 1, none⟩ = some (.int .u64 cl) ∧ W.cell? ⟨w.heap.size, 2, none⟩ = some (.int .u64 co) ∧ W.cell? ⟨w.heap.size, 3, none⟩ = some (.int .u64 ct) ∧ W.cell? ⟨w.heap.size, 4, none⟩ = some (.slice ra rn rcap)) := Lib.hid fun W hb =>
    five_cells ((hb.block w.heap.size (by rw [hW0]; simp)).trans (show W0.heap[w.heap.size]? = some (.cells #[.int .u64 cm, .int .u64 cl, .int .u64 co, .int .u64 ct, .slice ra rn rcap] 25 (0, 0)) by rw [hW0]; exact heap_alloc_new w _))
  have HIN : Hid (∀ W, Below W0.heap.size W0 W → Below w.heap.size w W) := Lib.hid fun W hb => HWB.out.trans (hb.mono HWB.out.size)
  have HCG : Hid (∀ W, Below W0.heap.size W0 W → Cw.Good W ⟨cm, cl, co, ct, ra, rn, rcap, xs⟩) := Lib.hid fun W hb => HC.out.below (HIN.out W hb) (Nat.le_refl _)
  simp only [Cw.v, Cw.cells]
  go_enter Try.func4, Try.ntmps4
  go_wp2_with fail
  rw [← hW0]
  refine (awake_any _).mono ?_
  rintro e w1 ⟨rfl, hb⟩
  have HB1 : Hid (Below W0.heap.size W0 w1) := Lib.hid hb
  clear hb hW0
  obtain ⟨k0, k1, k2, k3, k4⟩ := HKP.out _ HB1.out
  go_wp2_with fail
  clear k0 k1 k2 k3 k4
  refine (few17_is ⟨cm, cl, co, ct, ra, rn, rcap, xs⟩ a1 len1 cap1 w1 (HCG.out _ HB1.out) (by omega)).mono ?_
  rintro e w2 ⟨he, hb⟩
  have HB2 : Hid (Below W0.heap.size W0 w2) := Lib.hid (HB1.out.trans (hb.mono HB1.out.size))
  clear hb
  rcases he with rfl | ⟨rfl, hn300, hq100⟩
  · go_wp2
    go_ret
    exact ⟨rfl, HIN.out _ HB2.out⟩
  dsimp only at hn300
  obtain ⟨k0, k1, k2, k3, k4⟩ := HKP.out _ HB2.out
  go_wp2_with fail
  clear k0 k1 k2 k3 k4
  refine (sat17_is ⟨cm, cl, co, ct, ra, rn, rcap, xs⟩ a1 len1 cap1 zs a2 w2 w2 (Below.refl _ _) (HCG.out _ HB2.out) (HQ.out.below (HIN.out _ HB2.out) (Nat.le_refl _))).mono ?_
  rintro e w5 ⟨p5, n5, c5, xs5, rfl, hm, ht, hn, hb⟩
  have HP5 := Lib.hid hm.ps
  have HT5 := Lib.hid ht
  have HN5 := Lib.hid hn
  have HB5 : Hid (Below W0.heap.size W0 w5) := Lib.hid (HB2.out.trans (hb.mono HB2.out.size))
  have HL5 : Hid ((Stp.at' (Cw.c ⟨cm, cl, co, ct, ra, rn, rcap, xs⟩) zs a2).length = n5) := Lib.hid (by rw [← ht, stps_length]; exact hm.len)
  clear hm ht hn hb
  obtain ⟨d, hd⟩ : ∃ d, File.check (Cw.c ⟨cm, cl, co, ct, ra, rn, rcap, xs⟩) = d := ⟨_, rfl⟩
  have HD := Lib.hid hd
  clear hd
  obtain ⟨k0, k1, k2, k3, k4⟩ := HKP.out _ HB5.out
  go_wp2_with fail
  clear k0 k1 k2 k3 k4
  refine (fcheck_is ⟨cm, cl, co, ct, ra, rn, rcap, xs⟩ d w5 (HCG.out _ HB5.out) HD.out).mono ?_
  rintro e w6 ⟨rfl, hb⟩
  have HB6 : Hid (Below W0.heap.size W0 w6) := Lib.hid (HB5.out.trans (hb.mono HB5.out.size))
  have HP6 := Lib.hid (HP5.out.below hb (Nat.le_refl _))
  clear hb
  obtain ⟨-, -, -, -, k4⟩ := HKP.out _ HB6.out
  have h205 : Hid (d = true → n5 ≤ 5 + rn) := Lib.hid fun h => by
    rw [← HL5.out]
    unfold Stp.at'
    split
    · have := (Stp.here_len (Cw.c ⟨cm, cl, co, ct, ra, rn, rcap, xs⟩) (zs.drop a2.toNat)).2
      have e : ((Cw.c ⟨cm, cl, co, ct, ra, rn, rcap, xs⟩)).rules.length = rn := by show (ruls xs).length = rn; rw [ruls_length]; exact HRL.out
      rw [e] at this; exact this
    · simp
  have HOUT : Hid (d = false ∨ 20 < len1 ∨ a2 < 0 ∨ (len1 : Int) < a2 → n5 = 0) := Lib.hid fun h => by
    rw [← HL5.out, Stp.at_out]
    · rfl
    · unfold Stp.ok
      rw [HD.out, HQL.out]
      rcases h with rfl | h | h | h
      · exact .inl rfl
      · exact .inl (by rw [decide_eq_false (by omega), Bool.and_false])
      · exact .inr (.inl h)
      · exact .inr (.inr h)
  cases d with
  | false =>
    obtain rfl : n5 = 0 := HOUT.out (.inl rfl)
    go_wp2
    go_loop [10, 11] (fun ix _ => ix = .int .i64 0) (fun _ _ => 0)
    case atStart => rfl
    case round =>
      obtain rfl := hrel
      have hr5 : (0 : Int) ≤ 5 + (rn : Int) := by omega
      have hr6 : decide ((0 : Int) ≤ 5 + (rn : Int)) = true := decide_eq_true hr5
      go_wp2
      go_ret
      exact ⟨rfl, HIN.out _ HB6.out⟩
  | true =>
    have hrl := h205.out rfl
    by_cases hl20 : len1 ≤ 20
    · have hl1 : (len1 : Int) ≤ 20 := by omega
      have hl2 : decide ((len1 : Int) ≤ 20) = true := decide_eq_true hl1
      by_cases hi0 : 0 ≤ a2
      · have hi3 : decide (0 ≤ a2) = true := decide_eq_true hi0
        by_cases hil : a2 ≤ (len1 : Int)
        · have hi4 : decide (a2 ≤ (len1 : Int)) = true := decide_eq_true hil
          obtain ⟨i, rfl⟩ : ∃ i : Nat, a2 = (i : Int) := ⟨a2.toNat, by omega⟩
          obtain ⟨ml, hml⟩ : ∃ m, m = len1 - i := ⟨_, rfl⟩
          have hmi : (len1 : Int) - (i : Int) = (ml : Int) := by omega
          have HHERE : Hid (stps xs5 = Stp.here (Cw.c ⟨cm, cl, co, ct, ra, rn, rcap, xs⟩) (zs.drop i)) := Lib.hid (by
            rw [HT5.out, Stp.at_in (by unfold Stp.ok; rw [HD.out, HQL.out, decide_eq_true hl20]; rfl) (by rw [HQL.out]; omega)])
          have hn1 : 1 ≤ n5 := by
            have h := HHERE.out
            have h1 := (Stp.here_len (Cw.c ⟨cm, cl, co, ct, ra, rn, rcap, xs⟩) (zs.drop i)).1
            rw [← h, stps_length, HP5.out.1] at h1
            exact h1
          have HRL2 : Hid ((zs.drop i).length = ml) := Lib.hid (by rw [List.length_drop, HQL.out]; exact hml.symm)
          clear hml hi2
          go_wp2
          go_loop [10, 11] (fun ix _ => ∃ j : Nat, j ≤ n5 ∧ ix = .int .i64 (j : Int)) (fun ix _ => n5 - (intOf ix).toNat)
          case atStart => exact ⟨0, Nat.zero_le _, rfl⟩
          case round =>
            obtain ⟨j, hj, rfl⟩ := hrel
            by_cases hlt : j < n5
            · obtain ⟨b1, o1, e, pa, pn, pc, P, an, cc, rfl, _, hx1, hx2, hx3, hx4, hsl, _, _, _, hz⟩ := HP6.out.one j hlt
              have hjl : j < xs5.length := by rw [HP5.out.1]; exact hlt
              have hmem : (⟨e, P, an, cc⟩ : Stp.St) ∈ Stp.here (Cw.c ⟨cm, cl, co, ct, ra, rn, rcap, xs⟩) (zs.drop i) := by
                rw [← HHERE.out]
                have h1 : xs5.getD j Pw.no ∈ xs5 := by rw [List.getD_eq_getElem?_getD, List.getElem?_eq_getElem hjl, Option.getD_some]; exact List.getElem_mem _
                rw [hz] at h1
                exact List.mem_map.2 ⟨_, h1, rfl⟩
              obtain ⟨q1, q2, q3, q4, q5, q6⟩ := Stp.here_step HD.out (by rfl) (fun z hz => (HC.out.2 z hz).1) (fun r hr => by
                obtain ⟨y, hy, rfl⟩ := List.mem_map.1 hr
                exact (HC.out.1.2.2.2.1 y hy).2.2.1) hmem
              dsimp only at q1 q2 q3 q4 q5 q6
              rw [HRL2.out] at q2
              have hPl : P.length = pn := hsl.1
              have hji : (j : Int) < (n5 : Int) := by omega
              clear hsl hz hmem
              have he1 : ¬ e < 0 := by omega
              have he2 : decide (e < 0) = false := decide_eq_false he1
              have he3 : ¬ (ml : Int) < e := by omega
              have he4 : decide ((ml : Int) < e) = false := decide_eq_false he3
              have hc1 : (cc == 18446744073709551615) = false := by simp; omega
              have hc2 : decide (cc = 18446744073709551615) = false := decide_eq_false (by omega)
              have hc3 : ¬ cc = 18446744073709551615 := by omega
              by_cases hp0 : 0 < pn
              · have hp1 : (0 : Int) < (pn : Int) := by omega
                have hp2 : decide ((0 : Int) < (pn : Int)) = true := decide_eq_true hp1
                obtain rfl : an = false := by
                  cases an with
                  | false => rfl
                  | true => have := q4 rfl; rw [this] at hPl; simp at hPl; omega
                clear q3 q4 hPl
                by_cases h0 : e = 0
                · subst h0
                  go_wp2
                  go_round
                  case rel => exact ⟨j + 1, by omega, by go_num⟩
                  case measure => simp [intOf]; omega
                · have h1 : (e == 0) = false := by simpa using h0
                  have h2 : decide (e = 0) = false := decide_eq_false h0
                  go_wp2
                  go_round
                  case rel => exact ⟨j + 1, by omega, by go_num⟩
                  case measure => simp [intOf]; omega
              · have hp1 : ¬ (0 : Int) < (pn : Int) := by omega
                have hp2 : decide ((0 : Int) < (pn : Int)) = false := decide_eq_false hp1
                have hPn : P = [] := List.eq_nil_of_length_eq_zero (by omega)
                cases an with
                | true =>
                  clear q3 q4 hPl hPn
                  by_cases h0 : e = 0
                  · subst h0
                    go_wp2
                    go_round
                    case rel => exact ⟨j + 1, by omega, by go_num⟩
                    case measure => simp [intOf]; omega
                  · have h1 : (e == 0) = false := by simpa using h0
                    have h2 : decide (e = 0) = false := decide_eq_false h0
                    go_wp2
                    go_round
                    case rel => exact ⟨j + 1, by omega, by go_num⟩
                    case measure => simp [intOf]; omega
                | false =>
                  have h0 : ¬ e = 0 := fun h => by
                    rcases q3 h with q | q
                    · exact q hPn
                    · cases q
                  have h1 : (e == 0) = false := by simpa using h0
                  have h2 : decide (e = 0) = false := decide_eq_false h0
                  clear q3 q4 hPl hPn
                  go_wp2
                  go_round
                  case rel => exact ⟨j + 1, by omega, by go_num⟩
                  case measure => simp [intOf]; omega
            · obtain rfl : j = n5 := by omega
              have hn2 : (0 : Int) < (j : Int) := by omega
              have hn3 : decide ((0 : Int) < (j : Int)) = true := decide_eq_true hn2
              have hn4 : (j : Int) ≤ 5 + (rn : Int) := by omega
              have hn5 : decide ((j : Int) ≤ 5 + (rn : Int)) = true := decide_eq_true hn4
              go_wp2
              go_ret
              exact ⟨rfl, HIN.out _ HB6.out⟩
        · have hi4 : decide (a2 ≤ (len1 : Int)) = false := decide_eq_false hil
          obtain rfl : n5 = 0 := HOUT.out (.inr (.inr (.inr (by omega))))
          go_wp2
          go_loop [10, 11] (fun ix _ => ix = .int .i64 0) (fun _ _ => 0)
          case atStart => rfl
          case round =>
            obtain rfl := hrel
            have hr5 : (0 : Int) ≤ 5 + (rn : Int) := by omega
            have hr6 : decide ((0 : Int) ≤ 5 + (rn : Int)) = true := decide_eq_true hr5
            go_wp2
            go_ret
            exact ⟨rfl, HIN.out _ HB6.out⟩
      · have hi3 : decide (0 ≤ a2) = false := decide_eq_false hi0
        obtain rfl : n5 = 0 := HOUT.out (.inr (.inr (.inl (by omega))))
        go_wp2
        go_loop [10, 11] (fun ix _ => ix = .int .i64 0) (fun _ _ => 0)
        case atStart => rfl
        case round =>
          obtain rfl := hrel
          have hr5 : (0 : Int) ≤ 5 + (rn : Int) := by omega
          have hr6 : decide ((0 : Int) ≤ 5 + (rn : Int)) = true := decide_eq_true hr5
          go_wp2
          go_ret
          exact ⟨rfl, HIN.out _ HB6.out⟩
    · have hl1 : ¬ (len1 : Int) ≤ 20 := by omega
      have hl2 : decide ((len1 : Int) ≤ 20) = false := decide_eq_false hl1
      obtain rfl : n5 = 0 := HOUT.out (.inr (.inl (by omega)))
      go_wp2
      go_loop [10, 11] (fun ix _ => ix = .int .i64 0) (fun _ _ => 0)
      case atStart => rfl
      case round =>
        obtain rfl := hrel
        have hr5 : (0 : Int) ≤ 5 + (rn : Int) := by omega
        have hr6 : decide ((0 : Int) ≤ 5 + (rn : Int)) = true := decide_eq_true hr5
        go_wp2
        go_ret
        exact ⟨rfl, HIN.out _ HB6.out⟩

theorem lifted (os : Os) (started : os.Started) (H : Type) (enc : TypeId × Value → H) :
    ReturnsInHanded {} Try.checked os 4 .any (Rows.stepsMoveSpec.pre6 enc Try.prog Try.f4 Rows.stepsMoveRow.domain false) (Rows.stepsMoveSpec.post enc Try.prog Try.f4 false true false false) := by
  refine returnsInHanded_of_change (C := Try.checked) own started (by kernel_rfl) Try.func4
    (ChangeSpec.witness6 (enc := enc) (C := Try.checked) false ⟨#[], #[.agg #[.int .u64 0, .int .u64 0, .int .u64 0, .int .u64 0, .slice none 0 0], .slice none 0 0, .int .i64 0], []⟩ 8 (by kernel_rfl) (by kernel_rfl) (by kernel_rfl) (by kernel_rfl)) ?_
  intro W base args ds gs before hval0 hW hcnd _
  have hval : ∀ (j : Nat) t v, Try.f4.params[j]? = some t → args[j]? = some v → Value.okWide Try.prog W .any base t v := hval0
  have hW' := hW
  obtain ⟨p, q, hA0, hV, rfl, hfz, hnd⟩ := hW
  have hA : DataW.TrodAll enc Try.prog W 0 (fun _ => true) true Try.f4.params.toList args.toList ds p := hA0
  rw [Try.params4] at hA hval
  obtain ⟨v0, vs0, d0, ds0, p0, q0, hargs, rfl, rfl, h0, r0⟩ := trodAll_cons hA
  obtain ⟨v1, vs1, d1, ds1, p1, q1, rfl, rfl, rfl, h1, r1⟩ := trodAll_cons r0
  obtain ⟨v2, vs2, d2, ds2, p2, q2, rfl, rfl, rfl, h2, r2⟩ := trodAll_cons r1
  obtain ⟨rfl, rfl, rfl⟩ := trodAll_nil r2
  obtain rfl : args = #[v0, v1, v2] := by cases args; simp_all
  obtain ⟨rfl, rfl⟩ := trodVars_none hV
  have k0 := h0
  have lt0 : ∀ x ∈ p0, x.block < W.heap.size := by obtain ⟨m, hm⟩ := k0; exact DataW.trod_lt m _ _ _ hm
  obtain ⟨x0, rfl, w0, n0⟩ := Cw.open (hval 0 25 v0 rfl rfl) h0
  obtain ⟨a1, len1, cap1, rfl⟩ := okWide_slice Try.underlying26 (hval 1 26 v1 rfl rfl)
  have k1 := h1
  have lt1 : ∀ x ∈ p1, x.block < W.heap.size := by obtain ⟨m, hm⟩ := k1; exact DataW.trod_lt m _ _ _ hm
  obtain ⟨z1, w1⟩ : ∃ zs, IsRow .i64 W a1 len1 cap1 zs := by
    obtain ⟨fuel, hf⟩ := h1
    rcases open_ints Try.underlying26 Try.underlying3 (by kernel_rfl) hf with ⟨hcs, _⟩ | ⟨x, l, c, zs, hcs, _, hl, hm, hz, _, hcell, hwz⟩
    · simp [Value.cells] at hcs
      obtain ⟨rfl, rfl, rfl⟩ := hcs
      exact ⟨[], .inl ⟨rfl, rfl, rfl, rfl⟩⟩
    · simp [Value.cells] at hcs
      obtain ⟨rfl, rfl, rfl⟩ := hcs
      exact ⟨zs, .inr ⟨_, rfl, hl, hm, by simpa using hz, hcell, hwz⟩⟩
  obtain ⟨a2, rfl, rfl, rfl, w2⟩ := open_int Try.underlying3 (hval 2 3 v2 rfl rfl) h2
  clear hA0 hval0
  refine (walk x0 a1 len1 cap1 z1 a2 W w0 n0 w1 w2).mono fun e W' ⟨he, bel⟩ => ?_
  subst he
  exact ⟨_, rfl, _, _, _, [], _, [], hW', trodAll_mk1 (shut_bool Try.underlying4 _), (trodAll_cons_mk (Below.trod laidOut (by kernel_rfl) (of_decide_eq_true (by kernel_rfl)) k0 bel lt0) (trodAll_cons_mk (Below.trod laidOut (by kernel_rfl) (of_decide_eq_true (by kernel_rfl)) k1 bel lt1) (trodAll_cons_mk (shut_int Try.underlying3 w2) trodAll_mk0))), rfl, bel.frame _, fun h => by cases h⟩

theorem over : Rows.stepsMoveRow.holds Try.pinned (OpenSpec.ofChange Rows.stepsMoveSpec) :=
  OpenClaim.holds_of_wide 4 Try.f4 rfl rfl rfl rfl rfl rfl rfl ⟨rfl, rfl, rfl, rfl, rfl⟩ rfl rfl rfl rfl rfl (by kernel_rfl) Try.func4 (by kernel_rfl)
    (of_decide_eq_true (by kernel_rfl)) (by unfold Func.isWrapper; first | (rw [if_pos (by decide +kernel)]; kernel_rfl) | (rw [if_neg (by decide +kernel)]; exact ⟨rfl, rfl⟩))
    (fun os started H enc _ => lifted os started H enc)

/-- the statement -/
theorem proved : Rows.StepsMoveSaid := over
#print axioms proved
end Go.Proofs.Ytpcebfefbnpbpaa.stepsMove
