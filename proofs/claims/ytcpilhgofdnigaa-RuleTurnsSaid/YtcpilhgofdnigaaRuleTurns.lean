/- For every list of rules, RuleTurns answers true, and turns nothing that was there. No condition. -/
import Derived.Test.YtcpilhgofdnigaaRows
import Derived.Test.YtcpilhgofdnigaaRuleOpen
import Derived.Test.YtcpilhgofdnigaaRuleAwake
import Derived.Test.YtcpilhgofdnigaaRuleTurned
import Derived.Deep.RegionHeld3
import Derived.WalkKit
import Derived.ProofKit
import Derived.OpenShut
import Derived.ShutString
import Derived.ChangeOld
import Derived.Below
import Derived.Deep.Matrix
import Derived.SizedLaws
namespace Go.Proofs.Ytcpilhgofdnigaa.ruleTurns
open Go.ChangeShapes Go.WideShapes Go.ChangeAt Go.RowKit
set_option linter.unusedVariables false

theorem own : ownKnob Try.prog.godebug = none := by kernel_rfl
theorem laidOut : laidOutB Try.prog = true := by kernel_rfl

/-- a slice of integers that came in -/
def IsRow (k : IntKind) (w : World) (a : Option Addr) (len cap : Nat) (zs : List Int) : Prop :=
  (a = none ∧ len = 0 ∧ cap = 0 ∧ zs = []) ∨
  ∃ x, a = some x ∧ len ≤ cap ∧ cap ≤ maxLen ∧ zs.length = cap ∧ (∀ i, i < zs.length → w.cell? (x.add i) = some (.int k (zs.getD i 0))) ∧ ∀ n ∈ zs, (Lit.int k n).wf = true

/-! ### STEP 1: the walk -/
set_option maxHeartbeats 6400000 in
set_option maxRecDepth 100000 in
theorem walk (a0 : Option Addr) (len0 cap0 : Nat) (x0 : List Rw) (w : World) (w0 : Rs w a0 len0 cap0 x0) (n0 : a0 = none → cap0 = 0) (hr0 : len0 * 56 ≤ 140737488351232) :
    Calls Try.prog 7 #[.slice a0 len0 cap0] w fun e w' => e = .returned (.bool true) ∧ Below w.heap.size w w' := by
  have hnc := w0.2.1
  have hcm := w0.2.2.1
  unfold maxLen at hcm
  have HX := Lib.hid w0
  clear w0 n0
  go_enter Try.func7, Try.ntmps7
  go_wp2_with fail
  refine (awake_any _).mono ?_
  rintro e w1 ⟨rfl, B1⟩
  have X1 := Lib.hid (HX.out.below B1 (Nat.le_refl _))
  have HB1 := Lib.hid B1
  clear B1 HX
  go_wp2_with fail
  refine (rfew_any a0 len0 cap0 x0 100 (by omega) w1 X1.out).mono ?_
  rintro e w2 ⟨he | ⟨he, _, hl⟩, hw2⟩
  · subst he
    obtain rfl := hw2.symm
    go_wp2
    go_ret
    exact ⟨rfl, HB1.out⟩
  subst he
  obtain rfl := hw2.symm
  clear hw2
  go_wp2_with fail
  refine (turned_any a0 len0 cap0 x0 w1 X1.out (by omega)).mono ?_
  rintro e w3 ⟨at3, ct3, o3, rfl, hrs3, hr3, _, hb⟩
  have hct := hrs3.2.2.1
  unfold maxLen at hct
  have hnt := hrs3.2.1
  have X3 := Lib.hid (X1.out.below hb (Nat.le_refl _))
  have HB3 : Hid (Below w.heap.size w w3) := HB1.out.trans (hb.mono HB1.out.size)
  have HT3 := Lib.hid hrs3
  have HR3 := Lib.hid hr3
  clear hb hrs3 hr3 X1 HB1
  go_wp2
  go_loopw [5] (fun ix wr => ∃ j : Nat, j ≤ len0 ∧ ix = .int .i64 (j : Int) ∧ Hid (Below w3.heap.size w3 wr)) (fun ix _ => len0 - (intOf ix).toNat)
  case atStart => exact ⟨0, Nat.zero_le _, rfl, Below.refl _ _⟩
  case round =>
    obtain ⟨j, hj, rfl, HB⟩ := hrel
    by_cases hlt : j < len0
    · obtain ⟨b1, o1, la, ln, lc, LL, ra, rn, rc, RR, C, rfl, hb1, hx1, hx2, hx3, hsl, hsr, hC0, hC1, hz1⟩ := (X3.out.below HB.out (Nat.le_refl _)).one j hlt
      obtain ⟨b2, o2, la', ln', lc', LL', ra', rn', rc', RR', C', rfl, hb2, hy1, hy2, hy3, hsl', hsr', hC0', hC1', hz2⟩ := (HT3.out.below HB.out (Nat.le_refl _)).one j hlt
      have HG : Hid ((⟨la, ln, lc, LL, ra, rn, rc, RR, C⟩ : Rw).Good wr) := ⟨hsl, hsr, hC0, hC1⟩
      have HG' : Hid ((⟨la', ln', lc', LL', ra', rn', rc', RR', C'⟩ : Rw).Good wr) := ⟨hsl', hsr', hC0', hC1'⟩
      have hturn : (⟨LL', RR', C'⟩ : Rul) = Rul.turn ⟨LL, RR, C⟩ := by
        have h1 := ruls_at o3 j
        have h2 := ruls_at x0 j
        rw [hz2] at h1
        rw [hz1] at h2
        have hjl : j < (ruls x0).length := by rw [ruls_length, X3.out.1]; exact hlt
        rw [HR3.out, List.getD_eq_getElem?_getD, List.getElem?_map, List.getElem?_eq_getElem hjl] at h1
        rw [List.getD_eq_getElem?_getD, List.getElem?_eq_getElem hjl] at h2
        simp only [Option.map_some, Option.getD_some] at h1 h2
        rw [h2] at h1
        exact h1.symm
      obtain ⟨ck, hck⟩ : ∃ q, chk ⟨LL, RR, C⟩ = q := ⟨_, rfl⟩
      have hck' : chk ⟨LL', RR', C'⟩ = ck := by rw [hturn, chk_turn]; exact hck
      have HCK := Lib.hid hck
      have HCK' := Lib.hid hck'
      have hcc : (ck != ck) = false := by simp
      have hlti : (j : Int) < (len0 : Int) := by omega
      have KEEP : Hid (∀ W, Below wr.heap.size wr W → W.cell? ⟨b1, o1 + j * 3, none⟩ = some (.slice la ln lc) ∧ W.cell? ⟨b1, o1 + j * 3 + 1, none⟩ = some (.slice ra rn rc) ∧ W.cell? ⟨b1, o1 + j * 3 + 2, none⟩ = some (.int .u64 C) ∧
          W.cell? ⟨b2, o2 + j * 3, none⟩ = some (.slice la' ln' lc') ∧ W.cell? ⟨b2, o2 + j * 3 + 1, none⟩ = some (.slice ra' rn' rc') ∧ W.cell? ⟨b2, o2 + j * 3 + 2, none⟩ = some (.int .u64 C')) := fun W hb =>
        ⟨(hb.cell (p := ⟨b1, o1 + j * 3, none⟩) hb1).trans hx1, (hb.cell (p := ⟨b1, o1 + j * 3 + 1, none⟩) hb1).trans hx2, (hb.cell (p := ⟨b1, o1 + j * 3 + 2, none⟩) hb1).trans hx3,
          (hb.cell (p := ⟨b2, o2 + j * 3, none⟩) hb2).trans hy1, (hb.cell (p := ⟨b2, o2 + j * 3 + 1, none⟩) hb2).trans hy2, (hb.cell (p := ⟨b2, o2 + j * 3 + 2, none⟩) hb2).trans hy3⟩
      have hd0 : Below wr.heap.size wr wr.drew := below_drawn (Below.refl _ wr) ⟨1, rfl⟩
      clear hsl hsr hsl' hsr' hz1 hz2 hturn hck hck'
      go_wp2
      go_region_held3 (fun W => W.cell? ⟨b1, o1 + j * 3, none⟩ = some (.slice la ln lc) ∧ W.cell? ⟨b1, o1 + j * 3 + 1, none⟩ = some (.slice ra rn rc) ∧ W.cell? ⟨b1, o1 + j * 3 + 2, none⟩ = some (.int .u64 C) ∧
          W.cell? ⟨b2, o2 + j * 3, none⟩ = some (.slice la' ln' lc') ∧ W.cell? ⟨b2, o2 + j * 3 + 1, none⟩ = some (.slice ra' rn' rc') ∧ W.cell? ⟨b2, o2 + j * 3 + 2, none⟩ = some (.int .u64 C')) (first | exact KEEP.out _ hd2 | exact KEEP.out _ hd1 | exact KEEP.out _ hd0) (first
        | (have _t := hd1; go_at_call 10; refine (check_is ⟨la', ln', lc', LL', ra', rn', rc', RR', C'⟩ ck v1 (HG'.out.below hd1 (Nat.le_refl _)) HCK'.out).mono ?_; rintro e v2 ⟨rfl, hv⟩; have hd2 := hd1.trans (hv.mono hd1.size); clear hv)
        | (go_at_call 10; refine (check_is ⟨la, ln, lc, LL, ra, rn, rc, RR, C⟩ ck wr.drew (HG.out.below hd0 (Nat.le_refl _)) HCK.out).mono ?_; rintro e v1 ⟨rfl, hv⟩; have hd1 := hd0.trans (hv.mono hd0.size); clear hv))
      all_goals
        have HB2 : Hid (Below w3.heap.size w3 v2) := HB.out.trans (hd2.mono HB.out.size)
        clear hd0 hd1 hd2 hx1 hx2 hx3 hy1 hy2 hy3
        go_wp2
        go_roundw
        case rel => exact ⟨j + 1, by omega, by go_num, HB2.out⟩
        case measure => simp [intOf]; omega
    · obtain rfl : j = len0 := by omega
      have X4 := Lib.hid (X3.out.below HB.out (Nat.le_refl _))
      have HT4 := Lib.hid (HT3.out.below HB.out (Nat.le_refl _))
      have HB4 : Hid (Below w.heap.size w wr) := HB3.out.trans (HB.out.mono HB3.out.size)
      clear X3 HT3 HB3 HB
      go_wp2_with fail
      refine (norm_any at3 j ct3 o3 wr HT4.out (by omega)).mono ?_
      rintro e w5 ⟨a5, n5, c5, o5, rfl, hrs5, hr5, hn5, _, hb⟩
      have X5 := Lib.hid (X4.out.below hb (Nat.le_refl _))
      have HB5 : Hid (Below w.heap.size w w5) := HB4.out.trans (hb.mono HB4.out.size)
      have HR5 : Hid (ruls o5 = nrm ((ruls x0).map Rul.turn)) := hr5.trans (by rw [HR3.out])
      have HS5 := Lib.hid hrs5
      clear hb hr5 hrs5 X4 HB4 HT4
      go_wp2_with fail
      refine (turned_any a5 n5 c5 o5 w5 HS5.out (by omega)).mono ?_
      rintro e w6 ⟨a6, c6, o6, rfl, hrs6, hr6, _, hb⟩
      have X6 := Lib.hid (X5.out.below hb (Nat.le_refl _))
      have HB6 : Hid (Below w.heap.size w w6) := HB5.out.trans (hb.mono HB5.out.size)
      have HR6 := Lib.hid hr6
      have HS6 := Lib.hid hrs6
      clear hb hr6 hrs6 X5 HB5 HS5
      go_wp2_with fail
      refine (norm_any a6 n5 c6 o6 w6 HS6.out (by omega)).mono ?_
      rintro e w7 ⟨a7, n7, c7, o7, rfl, hrs7, hr7, hn7, _, hb⟩
      have X7 := Lib.hid (X6.out.below hb (Nat.le_refl _))
      have HB7 : Hid (Below w.heap.size w w7) := HB6.out.trans (hb.mono HB6.out.size)
      have HR7 : Hid (ruls o7 = nrm (ruls x0)) := by
        show _ = _
        rw [hr7, HR6.out, HR5.out, nrm_turns]
      have HS7 := Lib.hid hrs7
      clear hb hr7 hrs7 X6 HB6 HS6
      go_wp2_with fail
      refine (norm_any _ j cap0 x0 w7 X7.out (by omega)).mono ?_
      rintro e w8 ⟨a8, n8, c8, o8, rfl, hrs8, hr8, hn8, _, hb⟩
      have HB8 : Hid (Below w.heap.size w w8) := HB7.out.trans (hb.mono HB7.out.size)
      have HS8 := Lib.hid (HS7.out.below hb (Nat.le_refl _))
      have HT8 := Lib.hid hrs8
      have HR8 := Lib.hid hr8
      clear hb hr8 hrs8 X7 HB7 HS7
      go_wp2_with fail
      refine (rsames_is a7 a8 n7 n8 c7 c8 o7 o8 true w8 HS8.out HT8.out (by rw [HR7.out, HR8.out]; simp)).mono ?_
      rintro e w9 ⟨rfl, hq⟩
      have HB9 : Hid (Below w.heap.size w w9) := below_drawn HB8.out hq
      clear hq
      go_wp2
      go_ret
      exact ⟨rfl, HB9.out⟩

set_option maxRecDepth 100000 in
theorem lifted (os : Os) (started : os.Started) (H : Type) (enc : TypeId × Value → H) :
    ReturnsInHanded {} Try.checked os 7 .any (Rows.ruleTurnsSpec.pre6 enc Try.prog Try.f7 Rows.ruleTurnsRow.domain false) (Rows.ruleTurnsSpec.post enc Try.prog Try.f7 false true false false) := by
  refine returnsInHanded_of_change_sized (C := Try.checked) own started (by kernel_rfl) Try.func7
    (ChangeSpec.witness6 (enc := enc) (C := Try.checked) false ⟨#[], #[.slice none 0 0], []⟩ 8 (by kernel_rfl) (by kernel_rfl) (by kernel_rfl) (by kernel_rfl)) ?_
  intro W base args ds gs before hval0 hW hcnd hsz0 _
  have hsz : (DataW.weightsEach Try.prog (Try.f7.params.toList ++ Rows.ruleTurnsSpec.plain.varTypes Try.prog) (ds ++ gs)).all (· ≤ reachBytes) = true := hsz0
  clear hsz0
  have hval : ∀ (j : Nat) t v, Try.f7.params[j]? = some t → args[j]? = some v → Value.okWide Try.prog W .any base t v := hval0
  have hW' := hW
  obtain ⟨p, q, hA0, hV, rfl, hfz, hnd⟩ := hW
  have hA : DataW.TrodAll enc Try.prog W 0 (fun _ => true) true Try.f7.params.toList args.toList ds p := hA0
  rw [Try.params7] at hA hval hsz
  obtain ⟨v0, vs0, d0, ds0, p0, q0, hargs, rfl, rfl, h0, r0⟩ := trodAll_cons hA
  obtain ⟨rfl, rfl, rfl⟩ := trodAll_nil r0
  obtain rfl : args = #[v0] := by cases args; simp_all
  obtain ⟨rfl, rfl⟩ := trodVars_none hV
  obtain ⟨a0, len0, cap0, rfl⟩ := okWide_slice Try.underlying22 (hval 0 22 v0 rfl rfl)
  have k0 := h0
  have lt0 : ∀ x ∈ p0, x.block < W.heap.size := by obtain ⟨m, hm⟩ := k0; exact DataW.trod_lt m _ _ _ hm
  obtain ⟨x0, w0, n0, hr0⟩ : ∃ xs, Rs W a0 len0 cap0 xs ∧ (a0 = none → cap0 = 0) ∧ len0 * 56 ≤ 140737488351232 := by
    obtain ⟨fuel, hf⟩ := h0
    obtain ⟨a, l, c, xs, hcs, hrs, hnil, hsz1⟩ := Rs.open hf
    simp only [Value.slice.injEq] at hcs
    obtain ⟨rfl, rfl, rfl⟩ := hcs
    refine ⟨xs, hrs, hnil, ?_⟩
    rcases hsz1 with h0 | ⟨elems, spare, hd, hel⟩
    · omega
    · have hd' : d0 = .slice elems spare := hd
      subst hd'
      have hb56 : Try.prog.bytesOf 26 = 56 := by kernel_rfl
      have := sized_slice hsz (j := 0) (t := 22) (e := 26) rfl rfl Try.underlying22
      rw [hb56] at this
      simp only [reachBytes] at this
      omega
  clear hA0 hval0
  refine (walk a0 len0 cap0 x0 W w0 n0 hr0).mono fun e W' ⟨he, bel⟩ => ?_
  subst he
  exact ⟨_, rfl, _, _, _, [], _, [], hW', trodAll_mk1 (shut_bool Try.underlying4 _), (trodAll_cons_mk (Below.trod laidOut (by kernel_rfl) (of_decide_eq_true (by kernel_rfl)) k0 bel lt0) trodAll_mk0), rfl, bel.frame _, fun h => by cases h⟩

theorem over : Rows.ruleTurnsRow.holds Try.pinned (OpenSpec.ofChange Rows.ruleTurnsSpec) :=
  OpenClaim.holds_of_wide 7 Try.f7 rfl rfl rfl rfl rfl rfl rfl ⟨rfl, rfl, rfl, rfl, rfl⟩ rfl rfl rfl rfl rfl (by kernel_rfl) Try.func7 (by kernel_rfl)
    (of_decide_eq_true (by kernel_rfl)) (by unfold Func.isWrapper; first | (rw [if_pos (by decide +kernel)]; kernel_rfl) | (rw [if_neg (by decide +kernel)]; exact ⟨rfl, rfl⟩))
    (fun os started H enc _ => lifted os started H enc)

/-- the statement -/
theorem proved : Rows.RuleTurnsSaid := over
#print axioms proved
end Go.Proofs.Ytcpilhgofdnigaa.ruleTurns
