/- For every list of bytes LineBlanks answers true, and turns nothing that was there. No condition. -/
import Derived.Test.YtjdkmfcjflggfaaRows
import Derived.Test.YtjdkmfcjflggfaaLineApp
import Derived.WalkKit
import Derived.ProofKit
import Derived.OpenShut
import Derived.ShutString
import Derived.ChangeOld
import Derived.Below
namespace Go.Proofs.Ytjdkmfcjflggfaa.lineBlanks
open Go.ChangeShapes Go.WideShapes Go.ChangeAt Go.RowKit
open Go.ChangeMaps (open_string shut_string)
set_option linter.unusedVariables false

theorem own : ownKnob Try.prog.godebug = none := by kernel_rfl
theorem laidOut : laidOutB Try.prog = true := by kernel_rfl

/-- WHAT THE WALK IS TOLD OF A SLICE OF INTEGERS THAT CAME IN: it is nil; or it leads to a row of 'cap' cells, the numbers 'zs' (the first 'len' are its elements, the rest its spare room), each fitting its kind. -/
def IsRow (k : IntKind) (w : World) (a : Option Addr) (len cap : Nat) (zs : List Int) : Prop :=
  (a = none ∧ len = 0 ∧ cap = 0 ∧ zs = []) ∨
  ∃ x, a = some x ∧ len ≤ cap ∧ cap ≤ maxLen ∧ zs.length = cap ∧ (∀ i, i < zs.length → w.cell? (x.add i) = some (.int k (zs.getD i 0))) ∧ ∀ n ∈ zs, (Lit.int k n).wf = true

theorem bare_turn (xs : List Int) : Line.bare (xs.map Line.turn) = Line.bare xs := by unfold Line.bare; rw [Line.fields_turn]
theorem turn_at {xs : List Int} {i : Nat} (h : i < xs.length) : (xs.take (i + 1)).map Line.turn = (xs.take i).map Line.turn ++ [Line.turn (xs.getD i 0)] := by
  rw [List.take_succ_eq_append_getElem h, List.map_append]
  simp [h]
theorem turn_wf {xs : List Int} (h : ∀ z ∈ xs, (Lit.int .u8 z).wf = true) : ∀ z ∈ xs.map Line.turn, (Lit.int .u8 z).wf = true := by
  intro z hz
  obtain ⟨y, hy, rfl⟩ := List.mem_map.1 hz
  unfold Line.turn
  by_cases h9 : y = 9
  · subst h9; decide
  · by_cases h32 : y = 32
    · subst h32; decide
    · simpa [h9, h32] using h y hy

/-! ### STEP 1: THE WALK: the Go text returns true, AND WRITES NOTHING THAT WAS THERE: 'Below w.heap.size w w'' (Derived/Below.lean: '.refl', '.alloc', '.drew', '.setCell' at a new block, '.trans'). Open each 'IsRow' by 'rcases' AHEAD of 'go_enter'; part every test ahead of the walk. -/
set_option maxRecDepth 100000 in
set_option maxHeartbeats 6000000 in
theorem walk (a0 : Option Addr) (len0 cap0 : Nat) (z0 : List Int) (w : World) (w0 : IsRow .u8 w a0 len0 cap0 z0) :
    Calls Try.prog 7 #[.slice a0 len0 cap0] w fun e w' => e = .returned (.bool true) ∧ Below w.heap.size w w' := by
  have hn00 : a0 = none → cap0 = 0 := by
    rcases w0 with ⟨_, _, h, _⟩ | ⟨x, h, _⟩
    · exact fun _ => h
    · intro h'; rw [h] at h'; cases h'
  have HN0 := Lib.hid hn00
  clear hn00
  have hs0 := Sl.of_row w0
  generalize z0.take len0 = xs at hs0
  have hcm0 := hs0.2.2.1
  have hnc0 := hs0.2.1
  unfold maxLen at hcm0
  have HS := Lib.hid hs0
  clear hs0 w0
  by_cases g0 : 1000 < len0
  · have hi0 : (1000 : Int) < (len0 : Int) := by omega
    go_enter Try.func7, Try.ntmps7
    go_wp2_with fail
    refine (awake_any _).mono ?_
    rintro e w1 ⟨rfl, B1⟩
    go_wp2
    go_ret
    exact ⟨rfl, B1⟩
  have hi0 : ¬ (1000 : Int) < (len0 : Int) := by omega
  go_enter Try.func7, Try.ntmps7
  go_wp2_with fail
  refine (awake_any _).mono ?_
  rintro e w1 ⟨rfl, B1⟩
  have S1 := Lib.hid (HS.out.below B1 (Nat.le_refl _))
  go_wp2
  go_loopw [4, 5] (fun ov ix wr => ∃ (i : Nat) (a' : Option Addr) (c' : Nat), i ≤ len0 ∧ ix = .int .i64 (i : Int) ∧ ov = .slice a' i c' ∧ Hid (wr.ownsRow w1.heap.size 5 1 (.slice a' i c') i (u8s ((xs.take i).map Line.turn))) ∧ Hid (a' = none → c' = 0) ∧ Below w1.heap.size w1 wr) (fun _ ix _ => len0 - (intOf ix).toNat)
  case atStart => exact ⟨0, none, 0, Nat.zero_le _, rfl, rfl, World.ownsRow_nil _ _ _ _, (fun _ => rfl), Below.refl _ _⟩
  case round =>
    obtain ⟨i, a', c', hi, rfl, rfl, HO, HN, hb⟩ := hrel
    by_cases hlt : i < len0
    · obtain ⟨b, off, rfl, _, hc⟩ := (S1.out.below hb (Nat.le_refl _)).at (by omega)
      have hx1 := hc i hlt
      have hw1 := HS.out.2.2.2.1 (xs.getD i 0) (by rw [List.getD_eq_getElem?_getD, List.getElem?_eq_getElem (by rw [HS.out.1]; exact hlt)]; exact List.getElem_mem _)
      have htk := turn_at (xs := xs) (i := i) (by rw [HS.out.1]; exact hlt)
      obtain ⟨x, hx⟩ : ∃ x, x = xs.getD i 0 := ⟨_, rfl⟩
      rw [← hx] at hx1 hw1 htk
      have hlti : (i : Int) < (len0 : Int) := by omega
      clear hc hx
      by_cases h9 : x = 9
      · subst h9
        have HT : Hid ((xs.take (i + 1)).map Line.turn = (xs.take i).map Line.turn ++ [32]) := htk
        have HWF : Hid ((Lit.int .u8 32).wf = true) := by show _ = _; decide
        clear htk hw1
        go_wp2_with (at_builtin; refine append_bytes (by rfl) (.tmp 33) (.tmp 35) (by rfl) w1.heap.size _ i ((xs.take i).map Line.turn) (by rfl) (HO.out.alloc _) (some ⟨wr.heap.size, 0, none⟩) 1 1 [32] (by rfl) (Sl.newB [32] (by intro z hz; rw [List.mem_singleton.1 hz]; exact HWF.out) (by show 1 ≤ maxLen; unfold maxLen; omega) rfl rfl rfl) (fun h => by cases h) (i + 1) rfl (by omega) (by have := hb.size; simp; omega) ?_; intro a8 c8 w8 hown8 hb8 hn8)
        have HO8 : Hid (w8.ownsRow w1.heap.size 5 1 (.slice a8 (i + 1) c8) (i + 1) (u8s ((xs.take (i + 1)).map Line.turn))) := by show World.ownsRow _ _ _ _ _ _ _; rw [HT.out]; exact hown8
        have HN8 : Hid (a8 = none → c8 = 0) := hn8
        have hb9 := (hb.alloc hb.size (.cells #[.int .u8 32] 5)).trans hb8
        clear hown8 hn8 hb8
        go_wp2
        go_roundw
        case rel => exact ⟨i + 1, a8, c8, by omega, by go_num, by first | rfl | simp, HO8, HN8, hb9⟩
        case measure => simp [intOf]; omega
      by_cases h32 : x = 32
      · subst h32
        have HT : Hid ((xs.take (i + 1)).map Line.turn = (xs.take i).map Line.turn ++ [9]) := htk
        have HWF : Hid ((Lit.int .u8 9).wf = true) := by show _ = _; decide
        clear htk hw1
        go_wp2_with (at_builtin; refine append_bytes (by rfl) (.tmp 33) (.tmp 35) (by rfl) w1.heap.size _ i ((xs.take i).map Line.turn) (by rfl) (HO.out.alloc _) (some ⟨wr.heap.size, 0, none⟩) 1 1 [9] (by rfl) (Sl.newB [9] (by intro z hz; rw [List.mem_singleton.1 hz]; exact HWF.out) (by show 1 ≤ maxLen; unfold maxLen; omega) rfl rfl rfl) (fun h => by cases h) (i + 1) rfl (by omega) (by have := hb.size; simp; omega) ?_; intro a8 c8 w8 hown8 hb8 hn8)
        have HO8 : Hid (w8.ownsRow w1.heap.size 5 1 (.slice a8 (i + 1) c8) (i + 1) (u8s ((xs.take (i + 1)).map Line.turn))) := by show World.ownsRow _ _ _ _ _ _ _; rw [HT.out]; exact hown8
        have HN8 : Hid (a8 = none → c8 = 0) := hn8
        have hb9 := (hb.alloc hb.size (.cells #[.int .u8 9] 5)).trans hb8
        clear hown8 hn8 hb8
        go_wp2
        go_roundw
        case rel => exact ⟨i + 1, a8, c8, by omega, by go_num, by first | rfl | simp, HO8, HN8, hb9⟩
        case measure => simp [intOf]; omega
      have hb1 : (x == 9) = false := by simpa using h9
      have hb2 : (x == 32) = false := by simpa using h32
      have HT : Hid ((xs.take (i + 1)).map Line.turn = (xs.take i).map Line.turn ++ [x]) := by
        show _ = _
        rw [htk]; simp [Line.turn, h9, h32]
      have HWF := Lib.hid hw1
      clear htk hw1 h9 h32
      go_wp2_with (at_builtin; refine append_bytes (by rfl) (.tmp 33) (.tmp 35) (by rfl) w1.heap.size _ i ((xs.take i).map Line.turn) (by rfl) (HO.out.alloc _) (some ⟨wr.heap.size, 0, none⟩) 1 1 [x] (by rfl) (Sl.newB [x] (by intro z hz; rw [List.mem_singleton.1 hz]; exact HWF.out) (by show 1 ≤ maxLen; unfold maxLen; omega) rfl rfl rfl) (fun h => by cases h) (i + 1) rfl (by omega) (by have := hb.size; simp; omega) ?_; intro a8 c8 w8 hown8 hb8 hn8)
      have HO8 : Hid (w8.ownsRow w1.heap.size 5 1 (.slice a8 (i + 1) c8) (i + 1) (u8s ((xs.take (i + 1)).map Line.turn))) := by show World.ownsRow _ _ _ _ _ _ _; rw [HT.out]; exact hown8
      have HN8 : Hid (a8 = none → c8 = 0) := hn8
      have hb9 := (hb.alloc hb.size (.cells #[.int .u8 x] 5)).trans hb8
      clear hown8 hn8 hb8
      go_wp2
      go_roundw
      case rel => exact ⟨i + 1, a8, c8, by omega, by go_num, by first | rfl | simp, HO8, HN8, hb9⟩
      case measure => simp [intOf]; omega
    · obtain rfl : i = len0 := by omega
      have F1 := Lib.hid (Sl.of_owns (k := .u8) HO.out (turn_wf (fun z hz => HS.out.2.2.2.1 z (List.mem_of_mem_take hz))) (by rw [List.length_map, List.length_take, HS.out.1]; omega))
      have htk : xs.take i = xs := List.take_of_length_le (by rw [HS.out.1]; exact Nat.le_refl _)
      rw [htk] at F1
      have S2 := Lib.hid (S1.out.below hb (Nat.le_refl _))
      have B2 := B1.trans (hb.mono B1.size)
      clear htk HO hb S1
      go_wp2_with fail
      refine (fields_any _ _ _ xs _ S2.out HN0.out (by omega)).mono ?_
      rintro e w3 ⟨p3, m3, c3, r3, rfl, hy3, hb3, _, hw3⟩
      have S3 := Lib.hid (S2.out.below hw3 (Nat.le_refl _))
      have F3 := Lib.hid (F1.out.below hw3 (Nat.le_refl _))
      have hmc3 := hy3.2.1
      have hcm3 := hy3.2.2.1
      unfold maxLen at hcm3
      have Y3 := Lib.hid hy3
      have HB3 := Lib.hid hb3
      have B3 := B2.trans (hw3.mono B2.size)
      clear hy3 hb3 hw3 S2 F1 B2
      go_wp2
      go_loopw [8] (fun ix wr => ∃ j : Nat, j ≤ m3 ∧ ix = .int .i64 (j : Int) ∧ Hid (wr = w3)) (fun ix _ => m3 - (intOf ix).toNat)
      case atStart => exact ⟨0, Nat.zero_le _, rfl, rfl⟩
      case round =>
        obtain ⟨j, hj, rfl, HW⟩ := hrel
        obtain rfl := HW.out
        clear HW
        by_cases hjl : j < m3
        · obtain ⟨b, off, a4, n4, c4, z4, rfl, _, _, hx4, hs4, hz4⟩ := Y3.out.one j hjl
          have hno := Line.fields_no xs z4 (by rw [← HB3.out, ← hz4, List.getD_eq_getElem?_getD, List.getElem?_eq_getElem (by rw [bnums_length, Y3.out.1]; exact hjl)]; exact List.getElem_mem _)
          have hji : (j : Int) < (m3 : Int) := by omega
          have hn4 := hs4.2.1
          have hc4 := hs4.2.2.1
          unfold maxLen at hc4
          have HS4 := Lib.hid hs4
          have HNO := Lib.hid hno
          clear hs4 hno hz4
          go_wp2
          go_loopw [9] (fun kx wv => ∃ k : Nat, k ≤ n4 ∧ kx = .int .i64 (k : Int) ∧ Hid (wv = wr)) (fun kx _ => n4 - (intOf kx).toNat)
          case atStart => exact ⟨0, Nat.zero_le _, rfl, rfl⟩
          case round =>
            obtain ⟨k, hk, rfl, HW⟩ := hrel
            obtain rfl := HW.out
            clear HW
            by_cases hkl : k < n4
            · obtain ⟨b5, o5, rfl, _, hc5⟩ := HS4.out.at (by omega)
              have hx5 := hc5 k hkl
              have hbl := HNO.out.2 (z4.getD k 0) (by rw [List.getD_eq_getElem?_getD, List.getElem?_eq_getElem (by rw [HS4.out.1]; exact hkl)]; exact List.getElem_mem _)
              obtain ⟨x, hx⟩ : ∃ x, x = z4.getD k 0 := ⟨_, rfl⟩
              rw [← hx] at hx5 hbl
              unfold Line.isBlank at hbl
              simp only [Bool.or_eq_false_iff] at hbl
              obtain ⟨hq32, hq9⟩ := hbl
              have hki : (k : Int) < (n4 : Int) := by omega
              clear hc5 hx
              go_wp2
              go_roundw
              case rel => exact ⟨k + 1, by omega, by go_num, (by first | exact (trivial : True) | rfl)⟩
              case measure => simp [intOf]; omega
            · obtain rfl : k = n4 := by omega
              have hk0 : ((k : Int) == 0) = false := by
                simp only [beq_eq_false_iff_ne]
                intro h
                exact HNO.out.1 (List.eq_nil_of_length_eq_zero (by rw [HS4.out.1]; omega))
              go_wp2
              go_roundw
              case rel => exact ⟨j + 1, by omega, by go_num, (by first | exact (trivial : True) | rfl)⟩
              case measure => simp [intOf]; omega
        · obtain rfl : j = m3 := by omega
          go_wp2_with fail
          refine (fields_any _ _ _ (xs.map Line.turn) _ F3.out HN.out (by omega)).mono ?_
          rintro e w6 ⟨p6, m6, c6, r6, rfl, hy6, hb6, _, hw6⟩
          have S6 := Lib.hid (S3.out.below hw6 (Nat.le_refl _))
          have F6 := Lib.hid (F3.out.below hw6 (Nat.le_refl _))
          have Y6 := Lib.hid (Y3.out.below hw6 (Nat.le_refl _))
          have Z6 := Lib.hid hy6
          have HB6 := Lib.hid hb6
          have B6 := B3.trans (hw6.mono B3.size)
          clear hy6 hb6 hw6
          go_wp2_with fail
          refine (bsames_is _ _ _ _ _ _ r6 r3 true _ Z6.out Y6.out (by rw [HB6.out, HB3.out, Line.fields_turn]; simp)).mono ?_
          rintro e w7 ⟨rfl, hq7⟩
          have S7 := Lib.hid (S6.out.drawn hq7)
          have F7 := Lib.hid (F6.out.drawn hq7)
          have B7 := below_drawn B6 hq7
          clear hq7
          obtain ⟨r, hr⟩ : ∃ r, Line.bare xs = r := ⟨_, rfl⟩
          have HR := Lib.hid hr
          clear hr
          go_wp2_with fail
          refine (bare_any _ _ _ (xs.map Line.turn) _ F7.out HN.out (by omega)).mono ?_
          rintro e w8 ⟨rfl, hw8⟩
          rw [bare_turn, HR.out]
          have S8 := Lib.hid (S7.out.below hw8 (Nat.le_refl _))
          have B8 := B7.trans (hw8.mono B7.size)
          clear hw8
          go_wp2_with fail
          refine (bare_any _ _ _ xs _ S8.out HN0.out (by omega)).mono ?_
          rintro e w9 ⟨rfl, hw9⟩
          rw [HR.out]
          have B9 := B8.trans (hw9.mono B8.size)
          clear hw9
          go_wp2
          go_ret
          exact ⟨by first | rfl | simp, B9⟩

/-! ### THE ROW's STEP: WRITTEN OUT: LEAVE IT -/
set_option maxRecDepth 100000 in
theorem lifted (os : Os) (started : os.Started) (H : Type) (enc : TypeId × Value → H) :
    ReturnsInHanded {} Try.checked os 7 .any (Rows.lineBlanksSpec.pre6 enc Try.prog Try.f7 Rows.lineBlanksRow.domain false) (Rows.lineBlanksSpec.post enc Try.prog Try.f7 false true false false) := by
  refine returnsInHanded_of_change (C := Try.checked) own started (by kernel_rfl) Try.func7
    (ChangeSpec.witness6 (enc := enc) (C := Try.checked) false ⟨#[], #[.slice none 0 0], []⟩ 8 (by kernel_rfl) (by kernel_rfl) (by kernel_rfl) (by kernel_rfl)) ?_
  intro W base args ds gs before hval0 hW hcnd _
  have hval : ∀ (j : Nat) t v, Try.f7.params[j]? = some t → args[j]? = some v → Value.okWide Try.prog W .any base t v := hval0
  have hW' := hW
  obtain ⟨p, q, hA0, hV, rfl, hfz, hnd⟩ := hW
  have hA : DataW.TrodAll enc Try.prog W 0 (fun _ => true) true Try.f7.params.toList args.toList ds p := hA0
  rw [Try.params7] at hA hval
  obtain ⟨v0, vs0, d0, ds0, p0, q0, hargs, rfl, rfl, h0, r0⟩ := trodAll_cons hA
  obtain ⟨rfl, rfl, rfl⟩ := trodAll_nil r0
  obtain rfl : args = #[v0] := by cases args; simp_all
  obtain ⟨rfl, rfl⟩ := trodVars_none hV
  obtain ⟨a0, len0, cap0, rfl⟩ := okWide_slice Try.underlying22 (hval 0 22 v0 rfl rfl)
  have k0 := h0
  have lt0 : ∀ x ∈ p0, x.block < W.heap.size := by obtain ⟨m, hm⟩ := k0; exact DataW.trod_lt m _ _ _ hm
  obtain ⟨z0, w0⟩ : ∃ zs, IsRow .u8 W a0 len0 cap0 zs := by
    obtain ⟨fuel, hf⟩ := h0
    rcases open_ints Try.underlying22 Try.underlying5 (by kernel_rfl) hf with ⟨hcs, _⟩ | ⟨x, l, c, zs, hcs, _, hl, hm, hz, _, hcell, hwz⟩
    · simp [Value.cells] at hcs
      obtain ⟨rfl, rfl, rfl⟩ := hcs
      exact ⟨[], .inl ⟨rfl, rfl, rfl, rfl⟩⟩
    · simp [Value.cells] at hcs
      obtain ⟨rfl, rfl, rfl⟩ := hcs
      exact ⟨zs, .inr ⟨_, rfl, hl, hm, by simpa using hz, hcell, hwz⟩⟩
  clear hA0 hval0
  refine (walk a0 len0 cap0 z0 W w0).mono fun e W' ⟨he, bel⟩ => ?_
  subst he
  exact ⟨_, rfl, _, _, _, [], _, [], hW', trodAll_mk1 (shut_bool Try.underlying4 _), (trodAll_cons_mk (Below.trod laidOut (by kernel_rfl) (of_decide_eq_true (by kernel_rfl)) k0 bel lt0) trodAll_mk0), rfl, bel.frame _, fun h => by cases h⟩

theorem over : Rows.lineBlanksRow.holds Try.pinned (OpenSpec.ofChange Rows.lineBlanksSpec) :=
  OpenClaim.holds_of_wide 7 Try.f7 rfl rfl rfl rfl rfl rfl rfl ⟨rfl, rfl, rfl, rfl, rfl⟩ rfl rfl rfl rfl rfl (by kernel_rfl) Try.func7 (by kernel_rfl)
    (of_decide_eq_true (by kernel_rfl)) (by unfold Func.isWrapper; first | (rw [if_pos (by decide +kernel)]; kernel_rfl) | (rw [if_neg (by decide +kernel)]; exact ⟨rfl, rfl⟩))
    (fun os started H enc _ => lifted os started H enc)

/-- ████ THE STATEMENT ████ -/
theorem proved : Rows.LineBlanksSaid := over
#print axioms proved
end Go.Proofs.Ytjdkmfcjflggfaa.lineBlanks
