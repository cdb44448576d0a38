/- For every list of numbers and every list of bytes VarintMany answers true, and turns nothing that was there. No condition. -/
import Derived.Test.YtlpgnolibpfhpaaRows
import Derived.Test.YtlpgnolibpfhpaaVarAwake
import Derived.WalkKit
import Derived.ProofKit
import Derived.OpenShut
import Derived.ShutString
import Derived.ChangeOld
import Derived.Below
namespace Go.Proofs.Ytlpgnolibpfhpaa.varintMany
open Go.ChangeShapes Go.WideShapes Go.ChangeAt Go.RowKit
open Go.ChangeMaps (open_string shut_string)
set_option linter.unusedVariables false

theorem own : ownKnob Try.prog.godebug = none := by kernel_rfl
theorem laidOut : laidOutB Try.prog = true := by kernel_rfl

/-- WHAT THE WALK IS TOLD OF A SLICE OF INTEGERS THAT CAME IN: it is nil; or it leads to a row of 'cap' cells, the numbers 'zs' (the first 'len' are its elements, the rest its spare room), each fitting its kind. -/
def IsRow (k : IntKind) (w : World) (a : Option Addr) (len cap : Nat) (zs : List Int) : Prop :=
  (a = none ∧ len = 0 ∧ cap = 0 ∧ zs = []) ∨
  ∃ x, a = some x ∧ len ≤ cap ∧ cap ≤ maxLen ∧ zs.length = cap ∧ (∀ i, i < zs.length → w.cell? (x.add i) = some (.int k (zs.getD i 0))) ∧ ∀ n ∈ zs, (Lit.int k n).wf = true

/-- the bytes of numbers, one behind the other -/
def flat (l : List Int) : List Int := (l.map fun z => Var.enc z.toNat).flatten
theorem flat_snoc {l : List Int} {i : Nat} (h : i < l.length) {c : Nat} (hc : (c : Int) = l.getD i 0) : flat (l.take (i + 1)) = flat (l.take i) ++ Var.enc c := by
  have e : l[i] = (c : Int) := by simpa [h] using hc.symm
  rw [List.take_succ_eq_append_getElem h, e]
  simp [flat]
theorem flat_cons {l : List Int} {i : Nat} (h : i < l.length) {c : Nat} (hc : (c : Int) = l.getD i 0) : flat (l.drop i) = Var.enc c ++ flat (l.drop (i + 1)) := by
  have e : l[i] = (c : Int) := by simpa [h] using hc.symm
  rw [List.drop_eq_getElem_cons h, e]
  simp [flat]
theorem flat_wf (l : List Int) : ∀ z ∈ flat l, (Lit.int .u8 z).wf = true := by
  intro z hz
  simp only [flat, List.mem_flatten, List.mem_map] at hz
  obtain ⟨q, ⟨x, _, rfl⟩, hz⟩ := hz
  exact Var.enc_wf _ z hz

/-! ### STEP 1: THE WALK: the Go text returns true, AND WRITES NOTHING THAT WAS THERE: 'Below w.heap.size w w'' (Derived/Below.lean: '.refl', '.alloc', '.drew', '.setCell' at a new block, '.trans'). Open each 'IsRow' by 'rcases' AHEAD of 'go_enter'; part every test ahead of the walk. -/
set_option maxRecDepth 100000 in
set_option maxHeartbeats 6000000 in
theorem walk (a0 : Option Addr) (len0 cap0 : Nat) (z0 : List Int) (a1 : Option Addr) (len1 cap1 : Nat) (z1 : List Int) (w : World) (w0 : IsRow .u64 w a0 len0 cap0 z0) (w1 : IsRow .u8 w a1 len1 cap1 z1) :
    Calls Try.prog 6 #[.slice a0 len0 cap0, .slice a1 len1 cap1] w fun e w' => e = .returned (.bool true) ∧ Below w.heap.size w w' := by
  have hn00 : a0 = none → cap0 = 0 := by
    rcases w0 with ⟨_, _, h, _⟩ | ⟨x, h, _⟩
    · exact fun _ => h
    · intro h'; rw [h] at h'; cases h'
  have HN0 := Lib.hid hn00
  clear hn00
  have hs0 := Sl.of_row w0
  generalize z0.take len0 = zs at hs0
  have hcm0 := hs0.2.2.1
  have hnc0 := hs0.2.1
  unfold maxLen at hcm0
  have HZ := Lib.hid hs0
  clear hs0 w0
  have hn01 : a1 = none → cap1 = 0 := by
    rcases w1 with ⟨_, _, h, _⟩ | ⟨x, h, _⟩
    · exact fun _ => h
    · intro h'; rw [h] at h'; cases h'
  have HN1 := Lib.hid hn01
  clear hn01
  have hs1 := Sl.of_row w1
  generalize z1.take len1 = ys at hs1
  have hcm1 := hs1.2.2.1
  have hnc1 := hs1.2.1
  unfold maxLen at hcm1
  have HS := Lib.hid hs1
  clear hs1 w1
  by_cases g0 : 100 < len0
  · have hi0 : (100 : Int) < (len0 : Int) := by omega
    go_enter Try.func6, Try.ntmps6
    go_wp2_with fail
    refine (awake_any _).mono ?_
    rintro e w1 ⟨rfl, B1⟩
    go_wp2
    go_ret
    exact ⟨rfl, B1⟩
  have hi0 : ¬ (100 : Int) < (len0 : Int) := by omega
  by_cases g1 : 1000 < len1
  · have hi1 : (1000 : Int) < (len1 : Int) := by omega
    go_enter Try.func6, Try.ntmps6
    go_wp2_with fail
    refine (awake_any _).mono ?_
    rintro e w1 ⟨rfl, B1⟩
    go_wp2
    go_ret
    exact ⟨rfl, B1⟩
  clear hi0
  have hi0 : decide ((100 : Int) < (len0 : Int)) = false := by simp; omega
  have hi1 : decide ((1000 : Int) < (len1 : Int)) = false := by simp; omega
  have hlen0 : len0 ≤ 100 := by omega
  have hlen1 : len1 ≤ 1000 := by omega
  have HLZ : Hid (zs.length = len0) := HZ.out.1
  obtain ⟨S, hS⟩ : ∃ S, S = strOfNums ys := ⟨_, rfl⟩
  have HSD := Lib.hid hS
  have hss : (S.toList == S.toList) = true := by simp
  clear hS
  go_enter Try.func6, Try.ntmps6
  go_wp2_with fail
  refine (awake_any _).mono ?_
  rintro e w1 ⟨rfl, B1⟩
  have HB1 := Lib.hid B1
  clear B1
  go_wp2
  go_loopw [6, 7, 8] (fun bv nv ix wr => ∃ (i k : Nat) (a : Option Addr) (c : Nat), bv = .slice a k c ∧ nv = .int .i64 (k : Int) ∧ ix = .int .i64 (i : Int) ∧ i ≤ len0 ∧ k ≤ 10 * i ∧ Hid (k = (flat (zs.take i)).length) ∧ Hid (a = none → c = 0) ∧ Hid (wr.ownsRow w.heap.size 5 1 (.slice a k c) k (u8s (flat (zs.take i)))) ∧ Hid (Below w.heap.size w wr)) (fun _ _ ix _ => len0 - (intOf ix).toNat)
  case atStart => exact ⟨0, 0, none, 0, rfl, rfl, rfl, Nat.zero_le _, Nat.zero_le _, rfl, (fun _ => rfl), World.ownsRow_nil _ _ _ _, HB1.out⟩
  case round =>
    obtain ⟨i, k, a, c, rfl, rfl, rfl, hi, hk, HK, HNIL, HOW, HBW⟩ := hrel
    by_cases hlt : i < len0
    · obtain ⟨b0, o0, rfl, _, hc0⟩ := (HZ.out.below HBW.out (Nat.le_refl _)).at (by omega)
      have hx1 := hc0 i hlt
      have hwf := bounds_u64 (HZ.out.2.2.2.1 _ (vgetD_mem (i := i) (by rw [HLZ.out]; exact hlt)))
      obtain ⟨x, hx⟩ : ∃ x : Nat, (x : Int) = zs.getD i 0 := ⟨(zs.getD i 0).toNat, by omega⟩
      have HFS := Lib.hid (flat_snoc (l := zs) (by rw [HLZ.out]; exact hlt) hx)
      rw [← hx] at hx1 hwf
      have hxb : x < 18446744073709551616 := by omega
      obtain ⟨m, hm⟩ : ∃ m, (Var.enc x).length = m := ⟨_, rfl⟩
      have hm10 : m ≤ 10 := by rw [← hm]; exact Var.len_10 hxb
      have HM := Lib.hid hm
      have HPC : Hid (Calls Try.prog 10 #[.slice a k c, .int .u64 (x : Int)] wr fun e w' => ∃ a' c', e = .returned (.slice a' (k + m : Nat) c') ∧ w'.ownsRow wr.heap.size 5 1 (.slice a' (k + m) c') (k + m) (u8s (flat (zs.take i) ++ Var.enc x)) ∧ (a' = none → c' = 0) ∧ Below wr.heap.size wr w') :=
        put_is a k c (flat (zs.take i)) x m hxb hm wr (Sl.of_owns (k := .u8) HOW.out (flat_wf _) HK.out.symm) (by omega)
      have HZC := Lib.hid (fun w => size_is x m hxb hm w)
      have hlti : (i : Int) < (len0 : Int) := by omega
      obtain ⟨N, hN⟩ : ∃ N, k + m = N := ⟨_, rfl⟩
      have hNi : (k : Int) + (m : Int) = (N : Int) := by omega
      have hN9 : N ≤ 10 * (i + 1) := by omega
      have HNN := Lib.hid hN
      rw [hN] at HPC
      clear hc0 hx hwf hxb hm hN
      go_wp2_with fail
      refine HPC.out.mono ?_
      rintro e w2 ⟨a2, c2, rfl, hown2, hnil2, hb2⟩
      have HO2 : Hid (w2.ownsRow w.heap.size 5 1 (.slice a2 N c2) N (u8s (flat (zs.take (i + 1))))) := by
        show World.ownsRow _ _ _ _ _ _ _
        rw [HFS.out]; exact owns_base hown2 HBW.out.size
      have HN2 := Lib.hid hnil2
      have HB2 := Lib.hid (HBW.out.trans (hb2.mono HBW.out.size))
      have hx2 : w2.cell? ⟨b0, o0 + i, none⟩ = some (.int .u64 (x : Int)) := by rw [hb2.cell (p := ⟨b0, o0 + i, none⟩) (cell_lt hx1)]; exact hx1
      clear hown2 hnil2 hb2 HPC hx1
      go_wp2_with fail
      refine (HZC.out _).mono ?_
      rintro e w3 ⟨rfl, hb3⟩
      have HO3 := Lib.hid (ownsRow_below HO2.out hb3 (Nat.le_refl _))
      have HB3 := Lib.hid (HB2.out.trans (hb3.mono HB2.out.size))
      clear hb3 HO2 HB2
      go_wp2
      go_roundw
      case rel => exact ⟨i + 1, N, a2, c2, rfl, by first | rfl | go_num, by go_num, by omega, by omega, (by show N = _; rw [HFS.out, List.length_append, HM.out, ← HK.out]; exact HNN.out.symm), HN2.out, HO3.out, HB3.out⟩
      case measure => simp [intOf]; omega
    · obtain rfl : i = len0 := by omega
      have htk : zs.take i = zs := List.take_of_length_le (by rw [HLZ.out]; exact Nat.le_refl _)
      have HO : Hid (wr.ownsRow w.heap.size 5 1 (.slice a k c) k (u8s (flat zs))) := by
        have h := HOW.out
        rw [htk] at h; exact h
      have HKL : Hid (k = (flat zs).length) := by
        have h := HK.out
        rw [htk] at h; exact h
      obtain ⟨N, hN⟩ : ∃ N, k + len1 = N := ⟨_, rfl⟩
      have hN9 : N ≤ 2000 := by omega
      have HNN := Lib.hid hN
      have HS0 := Lib.hid (HS.out.below HBW.out (Nat.le_refl _))
      have hsz := HBW.out.size
      clear htk HK HOW hN
      go_wp2_with (at_builtin; refine append_bytes (by rfl) (.tmp 45) (.tmp 46) (by rfl) w.heap.size _ k (flat zs) (by rfl) HO.out a1 len1 cap1 ys (by rfl) HS0.out N HNN.out (by omega) hsz ?_; intro a4 c4 w4 hown4 hb4 hnil4; have HO4 := Lib.hid hown4; have HB4 := Lib.hid (HBW.out.trans hb4); clear hown4 hb4 hnil4)
      have HX4 : Hid (Sl .u8 w4 a4 N c4 (flat (zs.drop 0) ++ ys)) := Sl.of_owns (k := .u8) HO4.out (by intro z hz; rcases List.mem_append.1 hz with hz | hz; exact flat_wf _ z hz; exact HS.out.2.2.2.1 z hz) (by rw [List.drop_zero, List.length_append, ← HKL.out, HS.out.1]; exact HNN.out)
      have hkk : ((k : Int) == (k : Int)) = true := by simp
      go_loopw [6, 10] (fun bv ix wr => ∃ (j K : Nat) (a : Option Addr) (c : Nat), bv = .slice a K c ∧ ix = .int .i64 (j : Int) ∧ j ≤ i ∧ K ≤ 2000 ∧ Hid (Sl .u8 wr a K c (flat (zs.drop j) ++ ys)) ∧ Hid (Below w.heap.size w wr)) (fun _ ix _ => i - (intOf ix).toNat)
      case atStart => exact ⟨0, N, a4, c4, rfl, rfl, Nat.zero_le _, hN9, HX4.out, HB4.out⟩
      case round =>
        obtain ⟨j, K, ar, cr, rfl, rfl, hj, hK, HX, HBR⟩ := hrel
        by_cases hlj : j < i
        · obtain ⟨b0, o0, rfl, _, hc0⟩ := HZ.out.at (by omega)
          have hx1 := hc0 j hlj
          have hlt0 := cell_lt hx1
          have hwf := bounds_u64 (HZ.out.2.2.2.1 _ (vgetD_mem (i := j) (by rw [HLZ.out]; exact hlj)))
          obtain ⟨x, hx⟩ : ∃ x : Nat, (x : Int) = zs.getD j 0 := ⟨(zs.getD j 0).toNat, by omega⟩
          have hfc := flat_cons (l := zs) (by rw [HLZ.out]; exact hlj) hx
          rw [← hx] at hx1 hwf
          have hxb : x < 18446744073709551616 := by omega
          have HT : Hid (Var.take (flat (zs.drop j) ++ ys) = some (x, flat (zs.drop (j + 1)) ++ ys)) := by
            show _ = _
            rw [hfc, List.append_assoc]; exact Var.take_enc hxb _
          have hlen : (flat (zs.drop (j + 1)) ++ ys).length ≤ 2000 := by
            have h := HX.out.1
            rw [hfc, List.append_assoc, List.length_append] at h
            omega
          have HLE := Lib.hid hlen
          have hlji : (j : Int) < (i : Int) := by omega
          have hxx : ((x : Int) != (x : Int)) = false := by simp
          clear hc0 hx hwf hfc hlen
          have hxr : wr.cell? ⟨b0, o0 + j, none⟩ = some (.int .u64 (x : Int)) := by rw [HBR.out.cell (p := ⟨b0, o0 + j, none⟩) hlt0]; exact hx1
          go_wp2_with fail
          refine (take_is _ _ _ _ _ HX.out (by omega)).mono ?_
          rintro e w6 ⟨h6, hb6⟩
          obtain ⟨a6, n6, c6, rfl, hs6⟩ := h6.some HT.out
          have hx6 : w6.cell? ⟨b0, o0 + j, none⟩ = some (.int .u64 (x : Int)) := by rw [hb6.cell (p := ⟨b0, o0 + j, none⟩) (cell_lt hxr)]; exact hxr
          have hn6 : n6 ≤ 2000 := by rw [← hs6.1]; exact HLE.out
          have HS6 := Lib.hid hs6
          have HB6 := Lib.hid (HBR.out.trans (hb6.mono HBR.out.size))
          clear h6 hb6 hs6 hxr hx1
          go_wp2
          go_roundw
          case rel => exact ⟨j + 1, n6, a6, c6, rfl, by go_num, by omega, hn6, HS6.out, HB6.out⟩
          case measure => simp [intOf]; omega
        · obtain rfl : j = i := by omega
          have hdr : zs.drop j = [] := List.drop_eq_nil_of_le (by rw [HLZ.out]; exact Nat.le_refl _)
          have k7 : (convert 22 9 (.slice ar K cr)).run Try.prog wr = .ok (.string S) wr := by
            have h := HX.out
            rw [hdr, show flat ([] : List Int) ++ ys = ys from by simp [flat]] at h
            rw [HSD.out]; exact h.str
          have k8 : (convert 22 9 (.slice a1 len1 cap1)).run Try.prog wr = .ok (.string S) wr := by
            rw [HSD.out]; exact (HS.out.below HBR.out (Nat.le_refl _)).str
          clear hdr
          go_wp2
          go_ret
          exact ⟨by first | rfl | simp, HBR.out⟩

/-! ### THE ROW's STEP: WRITTEN OUT: LEAVE IT -/
set_option maxRecDepth 100000 in
theorem lifted (os : Os) (started : os.Started) (H : Type) (enc : TypeId × Value → H) :
    ReturnsInHanded {} Try.checked os 6 .any (Rows.varintManySpec.pre6 enc Try.prog Try.f6 Rows.varintManyRow.domain false) (Rows.varintManySpec.post enc Try.prog Try.f6 false true false false) := by
  refine returnsInHanded_of_change (C := Try.checked) own started (by kernel_rfl) Try.func6
    (ChangeSpec.witness6 (enc := enc) (C := Try.checked) false ⟨#[], #[.slice none 0 0, .slice none 0 0], []⟩ 8 (by kernel_rfl) (by kernel_rfl) (by kernel_rfl) (by kernel_rfl)) ?_
  intro W base args ds gs before hval0 hW hcnd _
  have hval : ∀ (j : Nat) t v, Try.f6.params[j]? = some t → args[j]? = some v → Value.okWide Try.prog W .any base t v := hval0
  have hW' := hW
  obtain ⟨p, q, hA0, hV, rfl, hfz, hnd⟩ := hW
  have hA : DataW.TrodAll enc Try.prog W 0 (fun _ => true) true Try.f6.params.toList args.toList ds p := hA0
  rw [Try.params6] at hA hval
  obtain ⟨v0, vs0, d0, ds0, p0, q0, hargs, rfl, rfl, h0, r0⟩ := trodAll_cons hA
  obtain ⟨v1, vs1, d1, ds1, p1, q1, rfl, rfl, rfl, h1, r1⟩ := trodAll_cons r0
  obtain ⟨rfl, rfl, rfl⟩ := trodAll_nil r1
  obtain rfl : args = #[v0, v1] := by cases args; simp_all
  obtain ⟨rfl, rfl⟩ := trodVars_none hV
  obtain ⟨a0, len0, cap0, rfl⟩ := okWide_slice Try.underlying33 (hval 0 33 v0 rfl rfl)
  have k0 := h0
  have lt0 : ∀ x ∈ p0, x.block < W.heap.size := by obtain ⟨m, hm⟩ := k0; exact DataW.trod_lt m _ _ _ hm
  obtain ⟨z0, w0⟩ : ∃ zs, IsRow .u64 W a0 len0 cap0 zs := by
    obtain ⟨fuel, hf⟩ := h0
    rcases open_ints Try.underlying33 Try.underlying23 (by kernel_rfl) hf with ⟨hcs, _⟩ | ⟨x, l, c, zs, hcs, _, hl, hm, hz, _, hcell, hwz⟩
    · simp [Value.cells] at hcs
      obtain ⟨rfl, rfl, rfl⟩ := hcs
      exact ⟨[], .inl ⟨rfl, rfl, rfl, rfl⟩⟩
    · simp [Value.cells] at hcs
      obtain ⟨rfl, rfl, rfl⟩ := hcs
      exact ⟨zs, .inr ⟨_, rfl, hl, hm, by simpa using hz, hcell, hwz⟩⟩
  obtain ⟨a1, len1, cap1, rfl⟩ := okWide_slice Try.underlying22 (hval 1 22 v1 rfl rfl)
  have k1 := h1
  have lt1 : ∀ x ∈ p1, x.block < W.heap.size := by obtain ⟨m, hm⟩ := k1; exact DataW.trod_lt m _ _ _ hm
  obtain ⟨z1, w1⟩ : ∃ zs, IsRow .u8 W a1 len1 cap1 zs := by
    obtain ⟨fuel, hf⟩ := h1
    rcases open_ints Try.underlying22 Try.underlying5 (by kernel_rfl) hf with ⟨hcs, _⟩ | ⟨x, l, c, zs, hcs, _, hl, hm, hz, _, hcell, hwz⟩
    · simp [Value.cells] at hcs
      obtain ⟨rfl, rfl, rfl⟩ := hcs
      exact ⟨[], .inl ⟨rfl, rfl, rfl, rfl⟩⟩
    · simp [Value.cells] at hcs
      obtain ⟨rfl, rfl, rfl⟩ := hcs
      exact ⟨zs, .inr ⟨_, rfl, hl, hm, by simpa using hz, hcell, hwz⟩⟩
  clear hA0 hval0
  refine (walk a0 len0 cap0 z0 a1 len1 cap1 z1 W w0 w1).mono fun e W' ⟨he, bel⟩ => ?_
  subst he
  exact ⟨_, rfl, _, _, _, [], _, [], hW', trodAll_mk1 (shut_bool Try.underlying4 _), (trodAll_cons_mk (Below.trod laidOut (by kernel_rfl) (of_decide_eq_true (by kernel_rfl)) k0 bel lt0) (trodAll_cons_mk (Below.trod laidOut (by kernel_rfl) (of_decide_eq_true (by kernel_rfl)) k1 bel lt1) trodAll_mk0)), rfl, bel.frame _, fun h => by cases h⟩

theorem over : Rows.varintManyRow.holds Try.pinned (OpenSpec.ofChange Rows.varintManySpec) :=
  OpenClaim.holds_of_wide 6 Try.f6 rfl rfl rfl rfl rfl rfl rfl ⟨rfl, rfl, rfl, rfl, rfl⟩ rfl rfl rfl rfl rfl (by kernel_rfl) Try.func6 (by kernel_rfl)
    (of_decide_eq_true (by kernel_rfl)) (by unfold Func.isWrapper; first | (rw [if_pos (by decide +kernel)]; kernel_rfl) | (rw [if_neg (by decide +kernel)]; exact ⟨rfl, rfl⟩))
    (fun os started H enc _ => lifted os started H enc)

/-- ████ THE STATEMENT ████ -/
theorem proved : Rows.VarintManySaid := over
#print axioms proved
end Go.Proofs.Ytlpgnolibpfhpaa.varintMany
