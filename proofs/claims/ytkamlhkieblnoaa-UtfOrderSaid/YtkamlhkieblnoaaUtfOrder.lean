/- For every two lists of numbers UtfOrder answers true, and turns nothing that was there. No condition. -/
import Derived.Test.YtkamlhkieblnoaaRows
import Derived.Test.YtkamlhkieblnoaaUtfWalkK
import Derived.Test.YtkamlhkieblnoaaUtfOrderMath
import Derived.WalkKit
import Derived.ProofKit
import Derived.OpenShut
import Derived.ShutString
import Derived.ChangeOld
import Derived.Below
namespace Go.Proofs.Ytkamlhkieblnoaa.utfOrder
open Go.ChangeShapes Go.WideShapes Go.ChangeAt Go.RowKit
open Go.ChangeMaps (open_string shut_string)
set_option linter.unusedVariables false

theorem own : ownKnob Try.prog.godebug = none := by kernel_rfl
theorem laidOut : laidOutB Try.prog = true := by kernel_rfl

/-- WHAT THE WALK IS TOLD OF A SLICE OF INTEGERS THAT CAME IN: it is nil; or it leads to a row of 'cap' cells, the numbers 'zs' (the first 'len' are its elements, the rest its spare room), each fitting its kind. -/
def IsRow (k : IntKind) (w : World) (a : Option Addr) (len cap : Nat) (zs : List Int) : Prop :=
  (a = none ∧ len = 0 ∧ cap = 0 ∧ zs = []) ∨
  ∃ x, a = some x ∧ len ≤ cap ∧ cap ≤ maxLen ∧ zs.length = cap ∧ (∀ i, i < zs.length → w.cell? (x.add i) = some (.int k (zs.getD i 0))) ∧ ∀ n ∈ zs, (Lit.int k n).wf = true

/-! ### STEP 1: THE WALK: the Go text returns true, AND WRITES NOTHING THAT WAS THERE: 'Below w.heap.size w w'' (Derived/Below.lean: '.refl', '.alloc', '.drew', '.setCell' at a new block, '.trans'). Open each 'IsRow' by 'rcases' AHEAD of 'go_enter'; part every test ahead of the walk. -/
theorem walk (a0 : Option Addr) (len0 cap0 : Nat) (z0 : List Int) (a1 : Option Addr) (len1 cap1 : Nat) (z1 : List Int) (w : World) (w0 : IsRow .i64 w a0 len0 cap0 z0) (w1 : IsRow .i64 w a1 len1 cap1 z1) :
    Calls Try.prog 5 #[.slice a0 len0 cap0, .slice a1 len1 cap1] w fun e w' => e = .returned (.bool true) ∧ Below w.heap.size w w' := by
  have hs := Sl.of_row w0
  generalize z0.take len0 = xs at hs
  have hcm0 := hs.2.2.1
  have hnc0 := hs.2.1
  unfold maxLen at hcm0
  have HS := Lib.hid hs
  clear hs w0
  have ht := Sl.of_row w1
  generalize z1.take len1 = ys at ht
  have hcm1 := ht.2.2.1
  have hnc1 := ht.2.1
  unfold maxLen at hcm1
  have HT := Lib.hid ht
  clear ht w1
  by_cases hbig : 1000 < len0 ∨ 1000 < len1
  · rcases hbig with h | h
    · have hi : (1000 : Int) < (len0 : Int) := by omega
      go_enter Try.func5, Try.ntmps5
      go_wp2_with (go_at_call 10; refine (awake_any _).mono ?_; rintro e w1 ⟨rfl, hb1⟩)
      go_ret
      exact ⟨rfl, hb1⟩
    · by_cases h' : 1000 < len0
      · have hi : (1000 : Int) < (len0 : Int) := by omega
        go_enter Try.func5, Try.ntmps5
        go_wp2_with (go_at_call 10; refine (awake_any _).mono ?_; rintro e w1 ⟨rfl, hb1⟩)
        go_ret
        exact ⟨rfl, hb1⟩
      · have hi : ¬ (1000 : Int) < (len0 : Int) := by omega
        have hi1 : (1000 : Int) < (len1 : Int) := by omega
        go_enter Try.func5, Try.ntmps5
        go_wp2_with (go_at_call 10; refine (awake_any _).mono ?_; rintro e w1 ⟨rfl, hb1⟩)
        go_ret
        exact ⟨rfl, hb1⟩
  · have hl0 : len0 ≤ 1000 := by omega
    have hl1 : len1 ≤ 1000 := by omega
    have hi0 : decide ((1000 : Int) < (len0 : Int)) = false := by simp; omega
    have hi1 : decide ((1000 : Int) < (len1 : Int)) = false := by simp; omega
    clear hbig
    obtain ⟨pa, ea, hpa⟩ := putIs_ex xs
    obtain ⟨pb, eb, hpb⟩ := putIs_ex ys
    have hea : ea = 0 ∨ ea = 10 := by
      obtain ⟨_, _, h⟩ | ⟨_, _, h⟩ := id hpa
      · exact .inl h
      · exact .inr h
    have heb : eb = 0 ∨ eb = 10 := by
      obtain ⟨_, _, h⟩ | ⟨_, _, h⟩ := id hpb
      · exact .inl h
      · exact .inr h
    have HPA := Lib.hid hpa
    have HPB := Lib.hid hpb
    clear hpa hpb
    by_cases hok : ea = 0 ∧ eb = 0
    · obtain ⟨rfl, rfl⟩ := hok
      clear hea heb
      obtain ⟨ga, rfl⟩ : Utf.allGood xs = true ∧ pa = Utf.put xs := by
        obtain ⟨h1, h2, _⟩ | ⟨_, _, h⟩ := HPA.out
        · exact ⟨h1, h2⟩
        · cases h
      obtain ⟨gb, rfl⟩ : Utf.allGood ys = true ∧ pb = Utf.put ys := by
        obtain ⟨h1, h2, _⟩ | ⟨_, _, h⟩ := HPB.out
        · exact ⟨h1, h2⟩
        · cases h
      have HLS := Lib.hid (Utf.less_strings xs ys ga gb)
      clear ga gb
      go_enter Try.func5, Try.ntmps5
      go_wp2_with fail
      refine (awake_any _).mono ?_
      rintro e w1 ⟨rfl, B1⟩
      go_wp2_with fail
      refine (put_gen _ _ _ xs _ _ _ HPA.out (HS.out.below B1 (Nat.le_refl _)) (by omega)).mono ?_
      rintro e w2 ⟨a2, c2, rfl, hs2, hb2⟩
      have B2 : Below w.heap.size w w2 := B1.trans (hb2.mono B1.size)
      clear hb2 B1
      go_wp2_with fail
      refine (put_gen _ _ _ ys _ _ _ HPB.out (HT.out.below B2 (Nat.le_refl _)) (by omega)).mono ?_
      rintro e w3 ⟨a3, c3, rfl, hs3, hb3⟩
      have B3 : Below w.heap.size w w3 := B2.trans (hb3.mono B2.size)
      have S2 := hs2.below hb3 (Nat.le_refl _)
      obtain ⟨s1, hs1⟩ : ∃ s1, s1 = strOfNums (Utf.put xs) := ⟨_, rfl⟩
      obtain ⟨s2, hs2⟩ : ∃ s2, s2 = strOfNums (Utf.put ys) := ⟨_, rfl⟩
      have X3 : Hid (Sl .i64 w3 a0 len0 cap0 xs) := HS.out.below B3 (Nat.le_refl _)
      have Y3 : Hid (Sl .i64 w3 a1 len1 cap1 ys) := HT.out.below B3 (Nat.le_refl _)
      have P3 := Lib.hid S2
      have Q3 := Lib.hid hs3
      have HS1 := Lib.hid hs1
      have HS2 := Lib.hid hs2
      clear hb3 B2 hs2 S2 hs3 hs1
      go_wp2_with fail
      go_loopw [10] (fun ix wr => ∃ j : Nat, j ≤ len0 ∧ j ≤ len1 ∧ ix = .int .i64 (j : Int) ∧ Hid (xs.take j = ys.take j) ∧ Hid (Sl .i64 wr a0 len0 cap0 xs) ∧ Hid (Sl .i64 wr a1 len1 cap1 ys) ∧ Hid (Sl .u8 wr a2 (Utf.put xs).length c2 (Utf.put xs)) ∧ Hid (Sl .u8 wr a3 (Utf.put ys).length c3 (Utf.put ys)) ∧ Below w.heap.size w wr) (fun ix _ => len0 - (intOf ix).toNat)
      case atStart => exact ⟨0, Nat.zero_le _, Nat.zero_le _, rfl, rfl, X3, Y3, P3, Q3, B3⟩
      case round =>
        obtain ⟨j, hj0, hj1, rfl, HT2, HX, HY, HP2, HQ2, hbel⟩ := hrel
        clear X3 Y3 P3 Q3 B3
        have hs1 := HS1.out
        have hs2 := HS2.out
        have hcv1 : ∀ m, (convert 23 9 (.slice a2 (Utf.put xs).length c2)).run Try.prog (wr.drewN m) = .ok (.string s1) (wr.drewN m) := fun m => by rw [hs1]; exact (HP2.out.drewN m).str
        have hcv2 : ∀ m, (convert 23 9 (.slice a3 (Utf.put ys).length c3)).run Try.prog (wr.drewN m) = .ok (.string s2) (wr.drewN m) := fun m => by rw [hs2]; exact (HQ2.out.drewN m).str
        have hcv3 : ∀ m q, (convert 23 9 (.slice a2 (Utf.put xs).length c2)).run Try.prog ((wr.drewN m).drewN q) = .ok (.string s1) ((wr.drewN m).drewN q) := fun m q => by rw [hs1]; exact ((HP2.out.drewN m).drewN q).str
        have hcv4 : ∀ m q, (convert 23 9 (.slice a3 (Utf.put ys).length c3)).run Try.prog ((wr.drewN m).drewN q) = .ok (.string s2) ((wr.drewN m).drewN q) := fun m q => by rw [hs2]; exact ((HQ2.out.drewN m).drewN q).str
        clear hs1 hs2
        by_cases hA : j < len0
        · have hAi : decide ((j : Int) < (len0 : Int)) = true := by simp; omega
          have hAe : ((j : Int) == (len0 : Int)) = false := by simp; omega
          have hAl : (j : Int) < (len0 : Int) := by omega
          by_cases hB : j < len1
          · have hBi : decide ((j : Int) < (len1 : Int)) = true := by simp; omega
            have hBl : (j : Int) < (len1 : Int) := by omega
            obtain ⟨b1, o1, rfl, _, hc1⟩ := HX.out.at (by omega)
            obtain ⟨b2, o2, rfl, _, hc2⟩ := HY.out.at (by omega)
            obtain ⟨x, hx⟩ : ∃ x, x = xs.getD j 0 := ⟨_, rfl⟩
            obtain ⟨y, hy⟩ : ∃ y, y = ys.getD j 0 := ⟨_, rfl⟩
            have hx1 := hc1 j hA
            have hy1 := hc2 j hB
            rw [← hx] at hx1
            rw [← hy] at hy1
            have HXE := Lib.hid hx
            have HYE := Lib.hid hy
            clear hc1 hc2 hx hy
            by_cases he : x = y
            · subst he
              clear hcv1 hcv2 hcv3 hcv4
              go_wp2
              go_quiet (fail)
              go_wp2
              go_roundw
              case rel => exact ⟨j + 1, by omega, by omega, by go_num, take_same HT2.out (by rw [HX.out.1]; exact hA) (by rw [HY.out.1]; exact hB) (by rw [← HXE.out, ← HYE.out]), HX, HY, HP2, HQ2, below_drewN hbel _⟩
              case measure => simp [intOf]; omega
            · have he1 : (x == y) = false := by simpa using he
              have hlv : Op.bytesLess s1.toList s2.toList = decide (x < y) := by
                rw [HS1.out, HS2.out, HLS.out, Utf.lessL_at xs ys j (by rw [HX.out.1]; omega) (by rw [HY.out.1]; omega) HT2.out (.inr (.inr (by rw [← HXE.out, ← HYE.out]; exact he))), HX.out.1, HY.out.1, ← HXE.out, ← HYE.out]
                simp [hB, show ¬ j = len0 from by omega]
              by_cases hlt : x < y
              · have hli : decide (x < y) = true := by simpa using hlt
                rw [hli] at hlv
                clear he
                go_wp2
                go_quiet (fail)
                go_wp2
                go_quiet (fail)
                go_wp2
                go_ret
                exact ⟨rfl, below_drewN hbel _⟩
              · have hli : decide (x < y) = false := by simpa using hlt
                rw [hli] at hlv
                clear he
                go_wp2
                go_quiet (fail)
                go_wp2
                go_quiet (fail)
                go_wp2
                go_ret
                exact ⟨rfl, below_drewN hbel _⟩
          · have hBi : decide ((j : Int) < (len1 : Int)) = false := by simp; omega
            have hlv : Op.bytesLess s1.toList s2.toList = false := by
              rw [HS1.out, HS2.out, HLS.out, Utf.lessL_at xs ys j (by rw [HX.out.1]; omega) (by rw [HY.out.1]; omega) HT2.out (.inr (.inl (by rw [HY.out.1]; omega))), HY.out.1]
              simp [hB]
            go_wp2
            go_quiet (fail)
            go_wp2
            go_quiet (fail)
            go_wp2
            go_ret
            exact ⟨rfl, below_drewN hbel _⟩
        · have hAi : decide ((j : Int) < (len0 : Int)) = false := by simp; omega
          have hAe : ((j : Int) == (len0 : Int)) = true := by simp; omega
          have hlv : Op.bytesLess s1.toList s2.toList = decide (j < len1) := by
            rw [HS1.out, HS2.out, HLS.out, Utf.lessL_at xs ys j (by rw [HX.out.1]; omega) (by rw [HY.out.1]; omega) HT2.out (.inl (by rw [HX.out.1]; omega)), HX.out.1, HY.out.1]
            simp [show j = len0 from by omega]
          by_cases hB : j < len1
          · have hBi : decide ((j : Int) < (len1 : Int)) = true := by simp; omega
            have hBn : decide (j < len1) = true := by simpa using hB
            rw [hBn] at hlv
            go_wp2
            go_quiet (fail)
            go_wp2
            go_quiet (fail)
            go_wp2
            go_ret
            exact ⟨rfl, below_drewN hbel _⟩
          · have hBi : decide ((j : Int) < (len1 : Int)) = false := by simp; omega
            have hBn : decide (j < len1) = false := by simpa using hB
            rw [hBn] at hlv
            go_wp2
            go_quiet (fail)
            go_wp2
            go_quiet (fail)
            go_wp2
            go_ret
            exact ⟨rfl, below_drewN hbel _⟩
    · have h3 : ea = 10 ∨ (ea = 0 ∧ eb = 10) := by omega
      clear hea heb hok
      rcases h3 with rfl | ⟨rfl, rfl⟩
      · skip
        go_enter Try.func5, Try.ntmps5
        go_wp2_with fail
        refine (awake_any _).mono ?_
        rintro e w1 ⟨rfl, B1⟩
        go_wp2_with fail
        refine (put_gen _ _ _ xs _ _ _ HPA.out (HS.out.below B1 (Nat.le_refl _)) (by omega)).mono ?_
        rintro e w2 ⟨a2, c2, rfl, hs2, hb2⟩
        have B2 : Below w.heap.size w w2 := B1.trans (hb2.mono B1.size)
        clear hb2 B1
        go_wp2_with fail
        refine (put_gen _ _ _ ys _ _ _ HPB.out (HT.out.below B2 (Nat.le_refl _)) (by omega)).mono ?_
        rintro e w3 ⟨a3, c3, rfl, hs3, hb3⟩
        have B3 : Below w.heap.size w w3 := B2.trans (hb3.mono B2.size)
        clear hb3 B2 hs2 hs3
        go_wp2
        go_ret
        exact ⟨rfl, B3⟩
      · skip
        go_enter Try.func5, Try.ntmps5
        go_wp2_with fail
        refine (awake_any _).mono ?_
        rintro e w1 ⟨rfl, B1⟩
        go_wp2_with fail
        refine (put_gen _ _ _ xs _ _ _ HPA.out (HS.out.below B1 (Nat.le_refl _)) (by omega)).mono ?_
        rintro e w2 ⟨a2, c2, rfl, hs2, hb2⟩
        have B2 : Below w.heap.size w w2 := B1.trans (hb2.mono B1.size)
        clear hb2 B1
        go_wp2_with fail
        refine (put_gen _ _ _ ys _ _ _ HPB.out (HT.out.below B2 (Nat.le_refl _)) (by omega)).mono ?_
        rintro e w3 ⟨a3, c3, rfl, hs3, hb3⟩
        have B3 : Below w.heap.size w w3 := B2.trans (hb3.mono B2.size)
        clear hb3 B2 hs2 hs3
        go_wp2
        go_ret
        exact ⟨rfl, B3⟩

/-! ### THE ROW's STEP: WRITTEN OUT: LEAVE IT -/
set_option maxRecDepth 100000 in
theorem lifted (os : Os) (started : os.Started) (H : Type) (enc : TypeId × Value → H) :
    ReturnsInHanded {} Try.checked os 5 .any (Rows.utfOrderSpec.pre6 enc Try.prog Try.f5 Rows.utfOrderRow.domain false) (Rows.utfOrderSpec.post enc Try.prog Try.f5 false true false false) := by
  refine returnsInHanded_of_change (C := Try.checked) own started (by kernel_rfl) Try.func5
    (ChangeSpec.witness6 (enc := enc) (C := Try.checked) false ⟨#[], #[.slice none 0 0, .slice none 0 0], []⟩ 8 (by kernel_rfl) (by kernel_rfl) (by kernel_rfl) (by kernel_rfl)) ?_
  intro W base args ds gs before hval0 hW hcnd _
  have hval : ∀ (j : Nat) t v, Try.f5.params[j]? = some t → args[j]? = some v → Value.okWide Try.prog W .any base t v := hval0
  have hW' := hW
  obtain ⟨p, q, hA0, hV, rfl, hfz, hnd⟩ := hW
  have hA : DataW.TrodAll enc Try.prog W 0 (fun _ => true) true Try.f5.params.toList args.toList ds p := hA0
  rw [Try.params5] at hA hval
  obtain ⟨v0, vs0, d0, ds0, p0, q0, hargs, rfl, rfl, h0, r0⟩ := trodAll_cons hA
  obtain ⟨v1, vs1, d1, ds1, p1, q1, rfl, rfl, rfl, h1, r1⟩ := trodAll_cons r0
  obtain ⟨rfl, rfl, rfl⟩ := trodAll_nil r1
  obtain rfl : args = #[v0, v1] := by cases args; simp_all
  obtain ⟨rfl, rfl⟩ := trodVars_none hV
  obtain ⟨a0, len0, cap0, rfl⟩ := okWide_slice Try.underlying22 (hval 0 22 v0 rfl rfl)
  have k0 := h0
  have lt0 : ∀ x ∈ p0, x.block < W.heap.size := by obtain ⟨m, hm⟩ := k0; exact DataW.trod_lt m _ _ _ hm
  obtain ⟨z0, w0⟩ : ∃ zs, IsRow .i64 W a0 len0 cap0 zs := by
    obtain ⟨fuel, hf⟩ := h0
    rcases open_ints Try.underlying22 Try.underlying3 (by kernel_rfl) hf with ⟨hcs, _⟩ | ⟨x, l, c, zs, hcs, _, hl, hm, hz, _, hcell, hwz⟩
    · simp [Value.cells] at hcs
      obtain ⟨rfl, rfl, rfl⟩ := hcs
      exact ⟨[], .inl ⟨rfl, rfl, rfl, rfl⟩⟩
    · simp [Value.cells] at hcs
      obtain ⟨rfl, rfl, rfl⟩ := hcs
      exact ⟨zs, .inr ⟨_, rfl, hl, hm, by simpa using hz, hcell, hwz⟩⟩
  obtain ⟨a1, len1, cap1, rfl⟩ := okWide_slice Try.underlying22 (hval 1 22 v1 rfl rfl)
  have k1 := h1
  have lt1 : ∀ x ∈ p1, x.block < W.heap.size := by obtain ⟨m, hm⟩ := k1; exact DataW.trod_lt m _ _ _ hm
  obtain ⟨z1, w1⟩ : ∃ zs, IsRow .i64 W a1 len1 cap1 zs := by
    obtain ⟨fuel, hf⟩ := h1
    rcases open_ints Try.underlying22 Try.underlying3 (by kernel_rfl) hf with ⟨hcs, _⟩ | ⟨x, l, c, zs, hcs, _, hl, hm, hz, _, hcell, hwz⟩
    · simp [Value.cells] at hcs
      obtain ⟨rfl, rfl, rfl⟩ := hcs
      exact ⟨[], .inl ⟨rfl, rfl, rfl, rfl⟩⟩
    · simp [Value.cells] at hcs
      obtain ⟨rfl, rfl, rfl⟩ := hcs
      exact ⟨zs, .inr ⟨_, rfl, hl, hm, by simpa using hz, hcell, hwz⟩⟩
  clear hA0 hval0
  refine (walk a0 len0 cap0 z0 a1 len1 cap1 z1 W w0 w1).mono fun e W' ⟨he, bel⟩ => ?_
  subst he
  exact ⟨_, rfl, _, _, _, [], _, [], hW', trodAll_mk1 (shut_bool Try.underlying4 _), (trodAll_cons_mk (Below.trod laidOut (by kernel_rfl) (of_decide_eq_true (by kernel_rfl)) k0 bel lt0) (trodAll_cons_mk (Below.trod laidOut (by kernel_rfl) (of_decide_eq_true (by kernel_rfl)) k1 bel lt1) trodAll_mk0)), rfl, bel.frame _, fun h => by cases h⟩

theorem over : Rows.utfOrderRow.holds Try.pinned (OpenSpec.ofChange Rows.utfOrderSpec) :=
  OpenClaim.holds_of_wide 5 Try.f5 rfl rfl rfl rfl rfl rfl rfl ⟨rfl, rfl, rfl, rfl, rfl⟩ rfl rfl rfl rfl rfl (by kernel_rfl) Try.func5 (by kernel_rfl)
    (of_decide_eq_true (by kernel_rfl)) (by unfold Func.isWrapper; first | (rw [if_pos (by decide +kernel)]; kernel_rfl) | (rw [if_neg (by decide +kernel)]; exact ⟨rfl, rfl⟩))
    (fun os started H enc _ => lifted os started H enc)

/-- ████ THE STATEMENT ████ -/
theorem proved : Rows.UtfOrderSaid := over
#print axioms proved
end Go.Proofs.Ytkamlhkieblnoaa.utfOrder
