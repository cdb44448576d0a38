/- For every list of rules, RuleHas answers true, and turns nothing that was there. No condition. -/
import Derived.Test.YtcpilhgofdnigaaRows
import Derived.Test.YtcpilhgofdnigaaRuleOpen
import Derived.Test.YtcpilhgofdnigaaRuleAwake
import Derived.Test.YtcpilhgofdnigaaRuleLike
import Derived.Deep.RegionHeld3
import Derived.LoopN
import Derived.WalkKit
import Derived.ProofKit
import Derived.OpenShut
import Derived.ShutString
import Derived.ChangeOld
import Derived.Below
import Derived.Deep.Matrix
import Derived.SizedLaws
namespace Go.Proofs.Ytcpilhgofdnigaa.ruleHas
open Go.ChangeShapes Go.WideShapes Go.ChangeAt Go.RowKit
set_option linter.unusedVariables false

theorem own : ownKnob Try.prog.godebug = none := by kernel_rfl
theorem laidOut : laidOutB Try.prog = true := by kernel_rfl

/-- a slice of integers that came in -/
def IsRow (k : IntKind) (w : World) (a : Option Addr) (len cap : Nat) (zs : List Int) : Prop :=
  (a = none ∧ len = 0 ∧ cap = 0 ∧ zs = []) ∨
  ∃ x, a = some x ∧ len ≤ cap ∧ cap ≤ maxLen ∧ zs.length = cap ∧ (∀ i, i < zs.length → w.cell? (x.add i) = some (.int k (zs.getD i 0))) ∧ ∀ n ∈ zs, (Lit.int k n).wf = true

/-! ### STEP 1: the walk -/
set_option maxHeartbeats 6400000 in
set_option maxRecDepth 100000 in
theorem walk (a0 : Option Addr) (len0 cap0 : Nat) (x0 : List Rw) (w : World) (w0 : Rs w a0 len0 cap0 x0) (n0 : a0 = none → cap0 = 0) (hr0 : len0 * 56 ≤ 140737488351232) :
    Calls Try.prog 5 #[.slice a0 len0 cap0] w fun e w' => e = .returned (.bool true) ∧ Below w.heap.size w w' := by
  have hnc := w0.2.1
  have hcm := w0.2.2.1
  unfold maxLen at hcm
  have HX := Lib.hid w0
  clear w0 n0
  go_enter Try.func5, Try.ntmps5
  go_wp2_with fail
  refine (awake_any _).mono ?_
  rintro e w1 ⟨rfl, B1⟩
  have X1 := Lib.hid (HX.out.below B1 (Nat.le_refl _))
  have HB1 := Lib.hid B1
  clear B1 HX
  go_wp2_with fail
  refine (rfew_any a0 len0 cap0 x0 100 (by omega) w1 X1.out).mono ?_
  rintro e w2 ⟨he | ⟨he, _, hl⟩, hw2⟩
  · subst he
    obtain rfl := hw2.symm
    go_wp2
    go_ret
    exact ⟨rfl, HB1.out⟩
  subst he
  obtain rfl := hw2.symm
  clear hw2
  go_wp2_with fail
  refine (norm_any a0 len0 cap0 x0 w1 X1.out (by omega)).mono ?_
  rintro e w3 ⟨a3, m, c3, o3, rfl, hrs3, hr3, hm, _, hb⟩
  have hct := hrs3.2.2.1
  unfold maxLen at hct
  have hnt := hrs3.2.1
  have X3 := Lib.hid (X1.out.below hb (Nat.le_refl _))
  have HB3 : Hid (Below w.heap.size w w3) := HB1.out.trans (hb.mono HB1.out.size)
  have HT3 := Lib.hid hrs3
  have HN : Hid (IsNorm (ruls x0) (ruls o3)) := by rw [hr3]; exact isNorm_nrm _
  clear hb hrs3 hr3 X1 HB1
  go_wp2
  go_loopw [5, 6] (fun ix _hv wr => ∃ j : Nat, j ≤ len0 ∧ ix = .int .i64 (j : Int) ∧ Hid (Below w3.heap.size w3 wr)) (fun ix _ _ => len0 - (intOf ix).toNat)
  case atStart => exact ⟨0, Nat.zero_le _, rfl, Below.refl _ _⟩
  case round =>
    obtain ⟨j, hj, rfl, HB⟩ := hrel
    by_cases hlt : j < len0
    · obtain ⟨b1, o1, la, ln, lc, LL, ra, rn, rc, RR, C, rfl, hb1, hx1, hx2, hx3, hsl, hsr, hC0, hC1, hz1⟩ := (X3.out.below HB.out (Nat.le_refl _)).one j hlt
      have HG : Hid ((⟨la, ln, lc, LL, ra, rn, rc, RR, C⟩ : Rw).Good wr) := ⟨hsl, hsr, hC0, hC1⟩
      have HZ1 := Lib.hid hz1
      obtain ⟨ck, hck⟩ : ∃ q, chk ⟨LL, RR, C⟩ = q := ⟨_, rfl⟩
      have HCK := Lib.hid hck
      have hlti : (j : Int) < (len0 : Int) := by omega
      clear hsl hsr hz1 hck
      go_wp2_with fail
      refine (check_is ⟨la, ln, lc, LL, ra, rn, rc, RR, C⟩ ck wr HG.out HCK.out).mono ?_
      rintro e w4 ⟨rfl, hb⟩
      have HG4 := Lib.hid (HG.out.below hb (Nat.le_refl _))
      have hq1 : w4.cell? ⟨b1, o1 + j * 3, none⟩ = some (.slice la ln lc) := (hb.cell (p := ⟨b1, o1 + j * 3, none⟩) hb1).trans hx1
      have hq2 : w4.cell? ⟨b1, o1 + j * 3 + 1, none⟩ = some (.slice ra rn rc) := (hb.cell (p := ⟨b1, o1 + j * 3 + 1, none⟩) hb1).trans hx2
      have hq3 : w4.cell? ⟨b1, o1 + j * 3 + 2, none⟩ = some (.int .u64 C) := (hb.cell (p := ⟨b1, o1 + j * 3 + 2, none⟩) hb1).trans hx3
      have HB4 : Hid (Below w3.heap.size w3 w4) := HB.out.trans (hb.mono HB.out.size)
      have hb14 := cell_lt hq1
      clear hb hx1 hx2 hx3 HG HB hb1
      go_wp2
      go_loopw [6, 7] (fun hv kx wr => ∃ (k : Nat) (h : Bool), k ≤ m ∧ kx = .int .i64 (k : Int) ∧ hv = .bool h ∧ Hid (h = ((!ck) || ((ruls o3).take k).any fun s => decide (s.like ⟨LL, RR, C⟩) && decide (s.C ≤ C))) ∧ Hid (Below w4.heap.size w4 wr)) (fun _ kx _ => m - (intOf kx).toNat)
      case atStart => exact ⟨0, !ck, Nat.zero_le _, rfl, rfl, (by first | exact (trivial : True) | (show (!ck) = ((!ck) || ((ruls o3).take 0).any _); rw [List.take_zero, List.any_nil, Bool.or_false])), Below.refl _ _⟩
      case round =>
        obtain ⟨k, h, hk, rfl, rfl, HH, HB⟩ := hrel
        by_cases hkm : k < m
        · obtain ⟨b2, o2, la', ln', lc', LL', ra', rn', rc', RR', C', rfl, hb2, hy1, hy2, hy3, hsl', hsr', hC0', hC1', hz2⟩ := ((HT3.out.below HB4.out (Nat.le_refl _)).below HB.out (Nat.le_refl _)).one k hkm
          have hkmi : (k : Int) < (m : Int) := by omega
          have HZ2 := Lib.hid hz2
          have HNX : Hid (∀ q : Bool, (decide ((⟨LL', RR', C'⟩ : Rul).like ⟨LL, RR, C⟩) && decide (C' ≤ C)) = q → (h || q) = ((!ck) || ((ruls o3).take (k + 1)).any fun s => decide (s.like ⟨LL, RR, C⟩) && decide (s.C ≤ C))) := fun q hq => by
            have hkr : k < (ruls o3).length := by rw [ruls_length, HT3.out.1]; exact hkm
            have h1 := ruls_at o3 k
            rw [HZ2.out, List.getD_eq_getElem?_getD, List.getElem?_eq_getElem hkr, Option.getD_some] at h1
            rw [List.take_succ_eq_append_getElem hkr, List.any_append, ← Bool.or_assoc, ← HH.out, h1, ← hq]
            simp [Rw.r]
          cases h
          · have HGX : Hid ((⟨la, ln, lc, LL, ra, rn, rc, RR, 0⟩ : Rw).Good wr) := ⟨HG4.out.1.below HB.out (Nat.le_refl _), HG4.out.2.1.below HB.out (Nat.le_refl _), Int.le_refl _, by show (0 : Int) < _; decide⟩
            have HGY : Hid ((⟨la', ln', lc', LL', ra', rn', rc', RR', 0⟩ : Rw).Good wr) := ⟨hsl', hsr', Int.le_refl _, by show (0 : Int) < _; decide⟩
            have hp1 : wr.cell? ⟨b1, o1 + j * 3, none⟩ = some (.slice la ln lc) := (HB.out.cell (p := ⟨b1, o1 + j * 3, none⟩) hb14).trans hq1
            have hp2 : wr.cell? ⟨b1, o1 + j * 3 + 1, none⟩ = some (.slice ra rn rc) := (HB.out.cell (p := ⟨b1, o1 + j * 3 + 1, none⟩) hb14).trans hq2
            have hp3 : wr.cell? ⟨b1, o1 + j * 3 + 2, none⟩ = some (.int .u64 C) := (HB.out.cell (p := ⟨b1, o1 + j * 3 + 2, none⟩) hb14).trans hq3
            have hbp := cell_lt hp1
            have KEEP : Hid (∀ W, Below wr.heap.size wr W → W.cell? ⟨b1, o1 + j * 3, none⟩ = some (.slice la ln lc) ∧ W.cell? ⟨b1, o1 + j * 3 + 1, none⟩ = some (.slice ra rn rc) ∧ W.cell? ⟨b1, o1 + j * 3 + 2, none⟩ = some (.int .u64 C) ∧ W.cell? ⟨b2, o2 + k * 3, none⟩ = some (.slice la' ln' lc') ∧ W.cell? ⟨b2, o2 + k * 3 + 1, none⟩ = some (.slice ra' rn' rc') ∧ W.cell? ⟨b2, o2 + k * 3 + 2, none⟩ = some (.int .u64 C')) := fun W hb =>
              ⟨(hb.cell (p := ⟨b1, o1 + j * 3, none⟩) hbp).trans hp1, (hb.cell (p := ⟨b1, o1 + j * 3 + 1, none⟩) hbp).trans hp2, (hb.cell (p := ⟨b1, o1 + j * 3 + 2, none⟩) hbp).trans hp3,
                (hb.cell (p := ⟨b2, o2 + k * 3, none⟩) hb2).trans hy1, (hb.cell (p := ⟨b2, o2 + k * 3 + 1, none⟩) hb2).trans hy2, (hb.cell (p := ⟨b2, o2 + k * 3 + 2, none⟩) hb2).trans hy3⟩
            have BEL0 : Hid (Below wr.heap.size wr wr.drew) := below_drawn (Below.refl _ wr) ⟨1, rfl⟩
            have BEL1 : Hid (∀ o, Below wr.heap.size wr (wr.alloc o)) := fun o => (Below.refl _ wr).alloc (Nat.le_refl _) o
            have BEL2 : Hid (∀ o o', Below wr.heap.size wr ((wr.alloc o).alloc o')) := fun o o' => ((Below.refl _ wr).alloc (Nat.le_refl _) o).alloc (by simp) o'
            have hcase := Classical.em ((⟨LL', RR', C'⟩ : Rul).like ⟨LL, RR, C⟩)
            clear hsl' hsr' hz2 hp1 hp2 hp3
            rcases hcase with h1 | h1
            · have HSM : Hid (decide ((⟨LL', RR', 0⟩ : Rul) = ⟨LL, RR, 0⟩) = true) := Lib.hid (decide_eq_true (Rul.ext' h1.1 h1.2 rfl))
              have HQ : Hid ((decide (C' ≤ C)) = ((!ck) || ((ruls o3).take (k + 1)).any fun s => decide (s.like ⟨LL, RR, C⟩) && decide (s.C ≤ C))) := (Bool.false_or (decide (C' ≤ C))).symm.trans (HNX.out (decide (C' ≤ C)) (by simp [h1]))
              clear h1 HNX
              go_wp2
              go_region_held3 (fun W => W.cell? ⟨b1, o1 + j * 3, none⟩ = some (.slice la ln lc) ∧ W.cell? ⟨b1, o1 + j * 3 + 1, none⟩ = some (.slice ra rn rc) ∧ W.cell? ⟨b1, o1 + j * 3 + 2, none⟩ = some (.int .u64 C) ∧ W.cell? ⟨b2, o2 + k * 3, none⟩ = some (.slice la' ln' lc') ∧ W.cell? ⟨b2, o2 + k * 3 + 1, none⟩ = some (.slice ra' rn' rc') ∧ W.cell? ⟨b2, o2 + k * 3 + 2, none⟩ = some (.int .u64 C')) (first | exact KEEP.out _ BEL0.out | exact KEEP.out _ (Below.like (BEL1.out _) rfl rfl rfl rfl) | exact KEEP.out _ (Below.like (BEL2.out _ _) rfl rfl rfl rfl) | exact KEEP.out _ hd5) (first
                | (go_at_call 14; refine (rsames_is (some ⟨_, 0, none⟩) (some ⟨_, 0, none⟩) 1 1 1 1 [⟨la', ln', lc', LL', ra', rn', rc', RR', 0⟩] [⟨la, ln, lc, LL, ra, rn, rc, RR, 0⟩] true _ (by first | exact (Rs.single ((HGY.out.alloc _).alloc _) ((RwAt.new wr ⟨la', ln', lc', LL', ra', rn', rc', RR', 0⟩ _).alloc _)).drew | exact (Rs.single ((HGY.out.alloc _).alloc _) (RwAt.second wr ⟨la', ln', lc', LL', ra', rn', rc', RR', 0⟩ _ _)).drew) (by first | exact (Rs.single ((HGX.out.alloc _).alloc _) (RwAt.second wr ⟨la, ln, lc, LL, ra, rn, rc, RR, 0⟩ _ _)).drew | exact (Rs.single ((HGX.out.alloc _).alloc _) ((RwAt.new wr ⟨la, ln, lc, LL, ra, rn, rc, RR, 0⟩ _).alloc _)).drew) (by rw [← HSM.out, decide_eq_decide]; simp [ruls, Rw.r])).mono ?_; rintro e w5 ⟨rfl, hq⟩; have hd5 : Below wr.heap.size wr w5 := below_drawn (below_drawn (BEL2.out _ _) ⟨1, rfl⟩) hq; clear hq))
              all_goals
                have HD5 : Hid (Below w4.heap.size w4 w5) := HB.out.trans (hd5.mono HB.out.size)
                clear hd5
                go_wp2
                go_roundw
                case rel => exact ⟨k + 1, (decide (C' ≤ C)), by omega, by go_num, rfl, HQ.out, HD5.out⟩
                case measure => simp [intOf]; omega
            · have HSM : Hid (decide ((⟨LL', RR', 0⟩ : Rul) = ⟨LL, RR, 0⟩) = false) := Lib.hid (decide_eq_false (fun h => h1 ⟨(Rul.mk.inj h).1, (Rul.mk.inj h).2.1⟩))
              have HQ : Hid (false = ((!ck) || ((ruls o3).take (k + 1)).any fun s => decide (s.like ⟨LL, RR, C⟩) && decide (s.C ≤ C))) := (Bool.false_or false).symm.trans (HNX.out false (by simp [h1]))
              clear h1 HNX
              go_wp2
              refine wp_region_held_drew (S := (fun W => W.cell? ⟨b1, o1 + j * 3, none⟩ = some (.slice la ln lc) ∧ W.cell? ⟨b1, o1 + j * 3 + 1, none⟩ = some (.slice ra rn rc) ∧ W.cell? ⟨b1, o1 + j * 3 + 2, none⟩ = some (.int .u64 C) ∧ W.cell? ⟨b2, o2 + k * 3, none⟩ = some (.slice la' ln' lc') ∧ W.cell? ⟨b2, o2 + k * 3 + 1, none⟩ = some (.slice ra' rn' rc') ∧ W.cell? ⟨b2, o2 + k * 3 + 2, none⟩ = some (.int .u64 C'))) (by kernel_rfl) (by first | ((first | exact KEEP.out _ BEL0.out | exact KEEP.out _ (Below.like (BEL1.out _) rfl rfl rfl rfl) | exact KEEP.out _ (Below.like (BEL2.out _ _) rfl rfl rfl rfl) | exact KEEP.out _ hd5)) | ((try dsimp only); (first | exact KEEP.out _ BEL0.out | exact KEEP.out _ (Below.like (BEL1.out _) rfl rfl rfl rfl) | exact KEEP.out _ (Below.like (BEL2.out _ _) rfl rfl rfl rfl) | exact KEEP.out _ hd5))) (fun hHeld => ?_)
              refine wpAnyH_take (i := 0) (v := ?vz1) rfl (by kernel_rfl) (by kernel_rfl) (by kernel_rfl) (fun _ _ _ h => h) (Or.inl ⟨by rfl, ?hz1⟩) (by assumption) ?rz1
              case hz1 => intro w hSw; (try dsimp only at hSw); go_simp; try with_reducible rfl
              simp only [Act.put, List.getElem_toArray, List.getElem_cons_succ, List.getElem_cons_zero, List.setIfInBounds_toArray, List.set_cons_succ, List.set_cons_zero]
              refine wpAnyH_take (i := 1) (v := ?vz4) rfl (by kernel_rfl) (by kernel_rfl) (by kernel_rfl) (fun _ _ _ h => h) (Or.inl ⟨by rfl, ?hz4⟩) (by assumption) ?rz4
              case hz4 => intro w hSw; (try dsimp only at hSw); go_simp; try with_reducible rfl
              simp only [Act.put, List.getElem_toArray, List.getElem_cons_succ, List.getElem_cons_zero, List.setIfInBounds_toArray, List.set_cons_succ, List.set_cons_zero]
              refine wpAnyH_take (i := 2) (v := ?vz7) rfl (by kernel_rfl) (by kernel_rfl) (by kernel_rfl) (fun _ _ _ h => h) (Or.inl ⟨by rfl, ?hz7⟩) (by assumption) ?rz7
              case hz7 => intro w hSw; (try dsimp only at hSw); go_simp; try with_reducible rfl
              simp only [Act.put, List.getElem_toArray, List.getElem_cons_succ, List.getElem_cons_zero, List.setIfInBounds_toArray, List.set_cons_succ, List.set_cons_zero]
              refine wpAnyH_take (i := 3) (v := ?vz10) rfl (by kernel_rfl) (by kernel_rfl) (by kernel_rfl) (fun _ _ _ h => h) (Or.inl ⟨by rfl, ?hz10⟩) (by assumption) ?rz10
              case hz10 => intro w hSw; (try dsimp only at hSw); go_simp; try with_reducible rfl
              simp only [Act.put, List.getElem_toArray, List.getElem_cons_succ, List.getElem_cons_zero, List.setIfInBounds_toArray, List.set_cons_succ, List.set_cons_zero]
              refine wpAnyH_take (i := 4) (v := ?vz13) rfl (by kernel_rfl) (by kernel_rfl) (by kernel_rfl) (fun _ _ _ h => h) (Or.inl ⟨by rfl, ?hz13⟩) (by assumption) ?rz13
              case hz13 => intro w hSw; (try dsimp only at hSw); go_simp; try with_reducible rfl
              simp only [Act.put, List.getElem_toArray, List.getElem_cons_succ, List.getElem_cons_zero, List.setIfInBounds_toArray, List.set_cons_succ, List.set_cons_zero]
              refine wpAnyH_take (i := 5) (v := ?vz16) rfl (by kernel_rfl) (by kernel_rfl) (by kernel_rfl) (fun _ _ _ h => h) (Or.inl ⟨by rfl, ?hz16⟩) (by assumption) ?rz16
              case hz16 => intro w hSw; (try dsimp only at hSw); go_simp; try with_reducible rfl
              simp only [Act.put, List.getElem_toArray, List.getElem_cons_succ, List.getElem_cons_zero, List.setIfInBounds_toArray, List.set_cons_succ, List.set_cons_zero]
              refine wpAnyH_take (i := 6) (v := ?vz19) rfl (by kernel_rfl) (by kernel_rfl) (by kernel_rfl) (fun _ _ _ h => h) (Or.inl ⟨by rfl, ?hz19⟩) (by assumption) ?rz19
              case hz19 => intro w hSw; (try dsimp only at hSw); go_simp; try with_reducible rfl
              simp only [Act.put, List.getElem_toArray, List.getElem_cons_succ, List.getElem_cons_zero, List.setIfInBounds_toArray, List.set_cons_succ, List.set_cons_zero]
              refine wpAnyH_take (i := 7) (v := ?vz22) rfl (by kernel_rfl) (by kernel_rfl) (by kernel_rfl) (fun _ _ _ h => h) (Or.inl ⟨by rfl, ?hz22⟩) (by assumption) ?rz22
              case hz22 => intro w hSw; (try dsimp only at hSw); go_simp; try with_reducible rfl
              simp only [Act.put, List.getElem_toArray, List.getElem_cons_succ, List.getElem_cons_zero, List.setIfInBounds_toArray, List.set_cons_succ, List.set_cons_zero]
              refine wpAnyH_take (i := 8) (v := ?vz25) rfl (by kernel_rfl) (by kernel_rfl) (by kernel_rfl) (fun _ _ _ h => h) (Or.inl ⟨by rfl, ?hz25⟩) (by assumption) ?rz25
              case hz25 => intro w hSw; (try dsimp only at hSw); go_simp; try with_reducible rfl
              simp only [Act.put, List.getElem_toArray, List.getElem_cons_succ, List.getElem_cons_zero, List.setIfInBounds_toArray, List.set_cons_succ, List.set_cons_zero]
              refine wpAnyH_take (i := 9) (v := ?vz28) rfl (by kernel_rfl) (by kernel_rfl) (by kernel_rfl) (fun _ _ _ h => h) (Or.inl ⟨by rfl, ?hz28⟩) (by assumption) ?rz28
              case hz28 => intro w hSw; (try dsimp only at hSw); go_simp; try with_reducible rfl
              simp only [Act.put, List.getElem_toArray, List.getElem_cons_succ, List.getElem_cons_zero, List.setIfInBounds_toArray, List.set_cons_succ, List.set_cons_zero]
              refine wpAnyH_take (i := 10) (v := ?vz31) rfl (by kernel_rfl) (by kernel_rfl) (by kernel_rfl) (fun _ _ _ h => h) (Or.inl ⟨by rfl, ?hz31⟩) (by assumption) ?rz31
              case hz31 => intro w hSw; (try dsimp only at hSw); go_simp; try with_reducible rfl
              simp only [Act.put, List.getElem_toArray, List.getElem_cons_succ, List.getElem_cons_zero, List.setIfInBounds_toArray, List.set_cons_succ, List.set_cons_zero]
              refine wpAnyH_take (i := 11) (v := ?vz34) rfl (by kernel_rfl) (by kernel_rfl) (by kernel_rfl) (fun _ _ _ h => h) (Or.inl ⟨by rfl, ?hz34⟩) (by assumption) ?rz34
              case hz34 => intro w hSw; (try dsimp only at hSw); go_simp; try with_reducible rfl
              simp only [Act.put, List.getElem_toArray, List.getElem_cons_succ, List.getElem_cons_zero, List.setIfInBounds_toArray, List.set_cons_succ, List.set_cons_zero]
              refine wpAnyH_take (i := 12) (v := ?vz37) rfl (by kernel_rfl) (by kernel_rfl) (by kernel_rfl) (fun _ _ _ h => h) (Or.inl ⟨by rfl, ?hz37⟩) (by assumption) ?rz37
              case hz37 => intro w hSw; (try dsimp only at hSw); go_simp; try with_reducible rfl
              simp only [Act.put, List.getElem_toArray, List.getElem_cons_succ, List.getElem_cons_zero, List.setIfInBounds_toArray, List.set_cons_succ, List.set_cons_zero]
              refine wpAnyH_take (i := 14) (v := ?vz40) rfl (by kernel_rfl) (by kernel_rfl) (by kernel_rfl) (fun _ _ _ h => h) (Or.inl ⟨by rfl, ?hz40⟩) (by assumption) ?rz40
              case hz40 => intro w hSw; (try dsimp only at hSw); go_simp; try with_reducible rfl
              simp only [Act.put, List.getElem_toArray, List.getElem_cons_succ, List.getElem_cons_zero, List.setIfInBounds_toArray, List.set_cons_succ, List.set_cons_zero]
              refine wpAnyH_take (i := 15) (v := ?vz43) rfl (by kernel_rfl) (by kernel_rfl) (by kernel_rfl) (fun _ _ _ h => h) (Or.inl ⟨by rfl, ?hz43⟩) (by assumption) ?rz43
              case hz43 => intro w hSw; (try dsimp only at hSw); go_simp; try with_reducible rfl
              simp only [Act.put, List.getElem_toArray, List.getElem_cons_succ, List.getElem_cons_zero, List.setIfInBounds_toArray, List.set_cons_succ, List.set_cons_zero]
              refine wpAnyH_take (i := 16) (v := ?vz46) rfl (by kernel_rfl) (by kernel_rfl) (by kernel_rfl) (fun _ _ _ h => h) (Or.inl ⟨by rfl, ?hz46⟩) (by assumption) ?rz46
              case hz46 => intro w hSw; (try dsimp only at hSw); go_simp; try with_reducible rfl
              simp only [Act.put, List.getElem_toArray, List.getElem_cons_succ, List.getElem_cons_zero, List.setIfInBounds_toArray, List.set_cons_succ, List.set_cons_zero]
              refine wpAnyH_take (i := 17) (v := ?vz49) rfl (by kernel_rfl) (by kernel_rfl) (by kernel_rfl) (fun _ _ _ h => h) (Or.inl ⟨by rfl, ?hz49⟩) (by assumption) ?rz49
              case hz49 => intro w hSw; (try dsimp only at hSw); go_simp; try with_reducible rfl
              simp only [Act.put, List.getElem_toArray, List.getElem_cons_succ, List.getElem_cons_zero, List.setIfInBounds_toArray, List.set_cons_succ, List.set_cons_zero]
              refine wpAnyH_take (i := 18) (v := ?vz52) rfl (by kernel_rfl) (by kernel_rfl) (by kernel_rfl) (fun _ _ _ h => h) (Or.inl ⟨by rfl, ?hz52⟩) (by assumption) ?rz52
              case hz52 => intro w hSw; (try dsimp only at hSw); go_simp; try with_reducible rfl
              simp only [Act.put, List.getElem_toArray, List.getElem_cons_succ, List.getElem_cons_zero, List.setIfInBounds_toArray, List.set_cons_succ, List.set_cons_zero]
              refine wpAnyH_take (i := 19) (v := ?vz55) rfl (by kernel_rfl) (by kernel_rfl) (by kernel_rfl) (fun _ _ _ h => h) (Or.inl ⟨by rfl, ?hz55⟩) (by assumption) ?rz55
              case hz55 => intro w hSw; (try dsimp only at hSw); go_simp; try with_reducible rfl
              simp only [Act.put, List.getElem_toArray, List.getElem_cons_succ, List.getElem_cons_zero, List.setIfInBounds_toArray, List.set_cons_succ, List.set_cons_zero]
              refine wpAnyH_take (i := 20) (v := ?vz58) rfl (by kernel_rfl) (by kernel_rfl) (by kernel_rfl) (fun _ _ _ h => h) (Or.inl ⟨by rfl, ?hz58⟩) (by assumption) ?rz58
              case hz58 => intro w hSw; (try dsimp only at hSw); go_simp; try with_reducible rfl
              simp only [Act.put, List.getElem_toArray, List.getElem_cons_succ, List.getElem_cons_zero, List.setIfInBounds_toArray, List.set_cons_succ, List.set_cons_zero]
              refine wpAnyH_take (i := 21) (v := ?vz61) rfl (by kernel_rfl) (by kernel_rfl) (by kernel_rfl) (fun _ _ _ h => h) (Or.inl ⟨by rfl, ?hz61⟩) (by assumption) ?rz61
              case hz61 => intro w hSw; (try dsimp only at hSw); go_simp; try with_reducible rfl
              simp only [Act.put, List.getElem_toArray, List.getElem_cons_succ, List.getElem_cons_zero, List.setIfInBounds_toArray, List.set_cons_succ, List.set_cons_zero]
              refine wpAnyH_take (i := 22) (v := ?vz64) rfl (by kernel_rfl) (by kernel_rfl) (by kernel_rfl) (fun _ _ _ h => h) (Or.inl ⟨by rfl, ?hz64⟩) (by assumption) ?rz64
              case hz64 => intro w hSw; (try dsimp only at hSw); go_simp; try with_reducible rfl
              simp only [Act.put, List.getElem_toArray, List.getElem_cons_succ, List.getElem_cons_zero, List.setIfInBounds_toArray, List.set_cons_succ, List.set_cons_zero]
              refine wpAnyH_take (i := 23) (v := ?vz67) rfl (by kernel_rfl) (by kernel_rfl) (by kernel_rfl) (fun _ _ _ h => h) (Or.inl ⟨by rfl, ?hz67⟩) (by assumption) ?rz67
              case hz67 => intro w hSw; (try dsimp only at hSw); go_simp; try with_reducible rfl
              simp only [Act.put, List.getElem_toArray, List.getElem_cons_succ, List.getElem_cons_zero, List.setIfInBounds_toArray, List.set_cons_succ, List.set_cons_zero]
              refine wpAnyH_take (i := 24) (v := ?vz70) rfl (by kernel_rfl) (by kernel_rfl) (by kernel_rfl) (fun _ _ _ h => h) (Or.inl ⟨by rfl, ?hz70⟩) (by assumption) ?rz70
              case hz70 => intro w hSw; (try dsimp only at hSw); go_simp; try with_reducible rfl
              simp only [Act.put, List.getElem_toArray, List.getElem_cons_succ, List.getElem_cons_zero, List.setIfInBounds_toArray, List.set_cons_succ, List.set_cons_zero]
              refine wpAnyH_ready (rs := [13, 25]) (by kernel_rfl) (by simp) ?_
              refine AllReadyH.cons rfl (fun K hK => ?_) (AllReadyH.cons rfl (fun K hK => ?_) AllReadyH.nil)
              · go_simp
                refine hK.out _ _ (by first | ((first | exact KEEP.out _ BEL0.out | exact KEEP.out _ (Below.like (BEL1.out _) rfl rfl rfl rfl) | exact KEEP.out _ (Below.like (BEL2.out _ _) rfl rfl rfl rfl) | exact KEEP.out _ hd5)) | ((try dsimp only); (first | exact KEEP.out _ BEL0.out | exact KEEP.out _ (Below.like (BEL1.out _) rfl rfl rfl rfl) | exact KEEP.out _ (Below.like (BEL2.out _ _) rfl rfl rfl rfl) | exact KEEP.out _ hd5))) (fun hHeld => ?_)
                clear hK K
                try simp only [Act.put, List.getElem_toArray, List.getElem_cons_succ, List.getElem_cons_zero, List.setIfInBounds_toArray, List.set_cons_succ, List.set_cons_zero]
                refine wpAnyH_ready (rs := [25]) (by kernel_rfl) (by simp) ?_
                refine AllReadyH.cons rfl (fun K hK => ?_) AllReadyH.nil
                go_simp
                refine hK.out _ _ (by first | ((first | exact KEEP.out _ BEL0.out | exact KEEP.out _ (Below.like (BEL1.out _) rfl rfl rfl rfl) | exact KEEP.out _ (Below.like (BEL2.out _ _) rfl rfl rfl rfl) | exact KEEP.out _ hd5)) | ((try dsimp only); (first | exact KEEP.out _ BEL0.out | exact KEEP.out _ (Below.like (BEL1.out _) rfl rfl rfl rfl) | exact KEEP.out _ (Below.like (BEL2.out _ _) rfl rfl rfl rfl) | exact KEEP.out _ hd5))) (fun hHeld => ?_)
                clear hK K
                try simp only [Act.put, List.getElem_toArray, List.getElem_cons_succ, List.getElem_cons_zero, List.setIfInBounds_toArray, List.set_cons_succ, List.set_cons_zero]
                refine wpAnyH_ready (rs := [26]) (by kernel_rfl) (by simp) ?_
                refine AllReadyH.cons rfl (fun K hK => ?_) AllReadyH.nil
                go_simp
                go_at_call 14
                refine (rsames_is (some ⟨_, 0, none⟩) (some ⟨_, 0, none⟩) 1 1 1 1 [⟨la', ln', lc', LL', ra', rn', rc', RR', 0⟩] [⟨la, ln, lc, LL, ra, rn, rc, RR, 0⟩] false _ (by first | exact (Rs.single ((HGY.out.alloc _).alloc _) ((RwAt.new wr ⟨la', ln', lc', LL', ra', rn', rc', RR', 0⟩ _).alloc _)).drew | exact (Rs.single ((HGY.out.alloc _).alloc _) (RwAt.second wr ⟨la', ln', lc', LL', ra', rn', rc', RR', 0⟩ _ _)).drew) (by first | exact (Rs.single ((HGX.out.alloc _).alloc _) (RwAt.second wr ⟨la, ln, lc, LL, ra, rn, rc, RR, 0⟩ _ _)).drew | exact (Rs.single ((HGX.out.alloc _).alloc _) ((RwAt.new wr ⟨la, ln, lc, LL, ra, rn, rc, RR, 0⟩ _).alloc _)).drew) (by rw [← HSM.out, decide_eq_decide]; simp [ruls, Rw.r])).mono ?_
                rintro e w5 ⟨rfl, hq⟩
                have hd5 : Below wr.heap.size wr w5 := below_drawn (below_drawn (BEL2.out _ _) ⟨1, rfl⟩) hq
                clear hq
                go_wp2_with fail
                refine hK.out _ _ (by first | ((first | exact KEEP.out _ BEL0.out | exact KEEP.out _ (Below.like (BEL1.out _) rfl rfl rfl rfl) | exact KEEP.out _ (Below.like (BEL2.out _ _) rfl rfl rfl rfl) | exact KEEP.out _ hd5)) | ((try dsimp only); (first | exact KEEP.out _ BEL0.out | exact KEEP.out _ (Below.like (BEL1.out _) rfl rfl rfl rfl) | exact KEEP.out _ (Below.like (BEL2.out _ _) rfl rfl rfl rfl) | exact KEEP.out _ hd5))) (fun hHeld => ?_)
                clear hK K
                try simp only [Act.put, List.getElem_toArray, List.getElem_cons_succ, List.getElem_cons_zero, List.setIfInBounds_toArray, List.set_cons_succ, List.set_cons_zero]
                refine wpAnyH_take (i := 27) (v := ?vz97) rfl (by kernel_rfl) (by kernel_rfl) (by kernel_rfl) (fun _ _ _ h => h) (Or.inl ⟨by rfl, ?hz97⟩) (by assumption) ?rz97
                case hz97 => intro w hSw; (try dsimp only at hSw); go_simp; try with_reducible rfl
                simp only [Act.put, List.getElem_toArray, List.getElem_cons_succ, List.getElem_cons_zero, List.setIfInBounds_toArray, List.set_cons_succ, List.set_cons_zero]
                refine wpAnyH_take (i := 28) (v := undef) rfl (by kernel_rfl) (by kernel_rfl) (by kernel_rfl) (fun _ _ _ h => h) (Or.inr ⟨by rfl, rfl⟩) (by assumption) ?_
                simp only [Act.put, List.getElem_toArray, List.getElem_cons_succ, List.getElem_cons_zero, List.setIfInBounds_toArray, List.set_cons_succ, List.set_cons_zero]
                refine wpAnyH_take (i := 29) (v := undef) rfl (by kernel_rfl) (by kernel_rfl) (by kernel_rfl) (fun _ _ _ h => h) (Or.inr ⟨by rfl, rfl⟩) (by assumption) ?_
                simp only [Act.put, List.getElem_toArray, List.getElem_cons_succ, List.getElem_cons_zero, List.setIfInBounds_toArray, List.set_cons_succ, List.set_cons_zero]
                refine wpAnyH_take (i := 30) (v := undef) rfl (by kernel_rfl) (by kernel_rfl) (by kernel_rfl) (fun _ _ _ h => h) (Or.inr ⟨by rfl, rfl⟩) (by assumption) ?_
                simp only [Act.put, List.getElem_toArray, List.getElem_cons_succ, List.getElem_cons_zero, List.setIfInBounds_toArray, List.set_cons_succ, List.set_cons_zero]
                refine wpAnyH_take (i := 31) (v := undef) rfl (by kernel_rfl) (by kernel_rfl) (by kernel_rfl) (fun _ _ _ h => h) (Or.inr ⟨by rfl, rfl⟩) (by assumption) ?_
                simp only [Act.put, List.getElem_toArray, List.getElem_cons_succ, List.getElem_cons_zero, List.setIfInBounds_toArray, List.set_cons_succ, List.set_cons_zero]
                refine wpAnyH_take (i := 32) (v := undef) rfl (by kernel_rfl) (by kernel_rfl) (by kernel_rfl) (fun _ _ _ h => h) (Or.inr ⟨by rfl, rfl⟩) (by assumption) ?_
                simp only [Act.put, List.getElem_toArray, List.getElem_cons_succ, List.getElem_cons_zero, List.setIfInBounds_toArray, List.set_cons_succ, List.set_cons_zero]
                refine wpAnyH_take (i := 33) (v := undef) rfl (by kernel_rfl) (by kernel_rfl) (by kernel_rfl) (fun _ _ _ h => h) (Or.inr ⟨by rfl, rfl⟩) (by assumption) ?_
                simp only [Act.put, List.getElem_toArray, List.getElem_cons_succ, List.getElem_cons_zero, List.setIfInBounds_toArray, List.set_cons_succ, List.set_cons_zero]
                refine wpAnyH_take (i := 34) (v := undef) rfl (by kernel_rfl) (by kernel_rfl) (by kernel_rfl) (fun _ _ _ h => h) (Or.inr ⟨by rfl, rfl⟩) (by assumption) ?_
                simp only [Act.put, List.getElem_toArray, List.getElem_cons_succ, List.getElem_cons_zero, List.setIfInBounds_toArray, List.set_cons_succ, List.set_cons_zero]
                refine wpAnyH_take (i := 35) (v := undef) rfl (by kernel_rfl) (by kernel_rfl) (by kernel_rfl) (fun _ _ _ h => h) (Or.inr ⟨by rfl, rfl⟩) (by assumption) ?_
                simp only [Act.put, List.getElem_toArray, List.getElem_cons_succ, List.getElem_cons_zero, List.setIfInBounds_toArray, List.set_cons_succ, List.set_cons_zero]
                refine wpAnyH_take (i := 36) (v := undef) rfl (by kernel_rfl) (by kernel_rfl) (by kernel_rfl) (fun _ _ _ h => h) (Or.inr ⟨by rfl, rfl⟩) (by assumption) ?_
                simp only [Act.put, List.getElem_toArray, List.getElem_cons_succ, List.getElem_cons_zero, List.setIfInBounds_toArray, List.set_cons_succ, List.set_cons_zero]
                refine wpAnyH_take (i := 37) (v := undef) rfl (by kernel_rfl) (by kernel_rfl) (by kernel_rfl) (fun _ _ _ h => h) (Or.inr ⟨by rfl, rfl⟩) (by assumption) ?_
                simp only [Act.put, List.getElem_toArray, List.getElem_cons_succ, List.getElem_cons_zero, List.setIfInBounds_toArray, List.set_cons_succ, List.set_cons_zero]
                refine wpAnyH_take (i := 38) (v := undef) rfl (by kernel_rfl) (by kernel_rfl) (by kernel_rfl) (fun _ _ _ h => h) (Or.inr ⟨by rfl, rfl⟩) (by assumption) ?_
                simp only [Act.put, List.getElem_toArray, List.getElem_cons_succ, List.getElem_cons_zero, List.setIfInBounds_toArray, List.set_cons_succ, List.set_cons_zero]
                refine wpAnyH_take (i := 39) (v := ?vz122) rfl (by kernel_rfl) (by kernel_rfl) (by kernel_rfl) (fun _ _ _ h => h) (Or.inl ⟨by rfl, ?hz122⟩) (by assumption) ?rz122
                case hz122 => intro w hSw; (try dsimp only at hSw); go_simp; try with_reducible rfl
                simp only [Act.put, List.getElem_toArray, List.getElem_cons_succ, List.getElem_cons_zero, List.setIfInBounds_toArray, List.set_cons_succ, List.set_cons_zero]
                refine wpAnyH_take (i := 40) (v := ?vz125) rfl (by kernel_rfl) (by kernel_rfl) (by kernel_rfl) (fun _ _ _ h => h) (Or.inl ⟨by rfl, ?hz125⟩) (by assumption) ?rz125
                case hz125 => intro w hSw; (try dsimp only at hSw); go_simp; try with_reducible rfl
                simp only [Act.put, List.getElem_toArray, List.getElem_cons_succ, List.getElem_cons_zero, List.setIfInBounds_toArray, List.set_cons_succ, List.set_cons_zero]
                refine wpAnyH_take (i := 41) (v := ?vz128) rfl (by kernel_rfl) (by kernel_rfl) (by kernel_rfl) (fun _ _ _ h => h) (Or.inl ⟨by rfl, ?hz128⟩) (by assumption) ?rz128
                case hz128 => intro w hSw; (try dsimp only at hSw); go_simp; try with_reducible rfl
                simp only [Act.put, List.getElem_toArray, List.getElem_cons_succ, List.getElem_cons_zero, List.setIfInBounds_toArray, List.set_cons_succ, List.set_cons_zero]
                refine wpAnyH_done (by kernel_rfl) ?_ _
                have HD5 : Hid (Below w4.heap.size w4 w5) := HB.out.trans (hd5.mono HB.out.size)
                clear hd5
                go_wp2
                go_roundw
                case rel => exact ⟨k + 1, false, by omega, by go_num, rfl, HQ.out, HD5.out⟩
                case measure => simp [intOf]; omega
              · go_simp
                refine hK.out _ _ (by first | ((first | exact KEEP.out _ BEL0.out | exact KEEP.out _ (Below.like (BEL1.out _) rfl rfl rfl rfl) | exact KEEP.out _ (Below.like (BEL2.out _ _) rfl rfl rfl rfl) | exact KEEP.out _ hd5)) | ((try dsimp only); (first | exact KEEP.out _ BEL0.out | exact KEEP.out _ (Below.like (BEL1.out _) rfl rfl rfl rfl) | exact KEEP.out _ (Below.like (BEL2.out _ _) rfl rfl rfl rfl) | exact KEEP.out _ hd5))) (fun hHeld => ?_)
                clear hK K
                try simp only [Act.put, List.getElem_toArray, List.getElem_cons_succ, List.getElem_cons_zero, List.setIfInBounds_toArray, List.set_cons_succ, List.set_cons_zero]
                refine wpAnyH_ready (rs := [13]) (by kernel_rfl) (by simp) ?_
                refine AllReadyH.cons rfl (fun K hK => ?_) AllReadyH.nil
                go_simp
                refine hK.out _ _ (by first | ((first | exact KEEP.out _ BEL0.out | exact KEEP.out _ (Below.like (BEL1.out _) rfl rfl rfl rfl) | exact KEEP.out _ (Below.like (BEL2.out _ _) rfl rfl rfl rfl) | exact KEEP.out _ hd5)) | ((try dsimp only); (first | exact KEEP.out _ BEL0.out | exact KEEP.out _ (Below.like (BEL1.out _) rfl rfl rfl rfl) | exact KEEP.out _ (Below.like (BEL2.out _ _) rfl rfl rfl rfl) | exact KEEP.out _ hd5))) (fun hHeld => ?_)
                clear hK K
                try simp only [Act.put, List.getElem_toArray, List.getElem_cons_succ, List.getElem_cons_zero, List.setIfInBounds_toArray, List.set_cons_succ, List.set_cons_zero]
                refine wpAnyH_ready (rs := [26]) (by kernel_rfl) (by simp) ?_
                refine AllReadyH.cons rfl (fun K hK => ?_) AllReadyH.nil
                go_simp
                go_at_call 14
                refine (rsames_is (some ⟨_, 0, none⟩) (some ⟨_, 0, none⟩) 1 1 1 1 [⟨la', ln', lc', LL', ra', rn', rc', RR', 0⟩] [⟨la, ln, lc, LL, ra, rn, rc, RR, 0⟩] false _ (by first | exact (Rs.single ((HGY.out.alloc _).alloc _) ((RwAt.new wr ⟨la', ln', lc', LL', ra', rn', rc', RR', 0⟩ _).alloc _)).drew | exact (Rs.single ((HGY.out.alloc _).alloc _) (RwAt.second wr ⟨la', ln', lc', LL', ra', rn', rc', RR', 0⟩ _ _)).drew) (by first | exact (Rs.single ((HGX.out.alloc _).alloc _) (RwAt.second wr ⟨la, ln, lc, LL, ra, rn, rc, RR, 0⟩ _ _)).drew | exact (Rs.single ((HGX.out.alloc _).alloc _) ((RwAt.new wr ⟨la, ln, lc, LL, ra, rn, rc, RR, 0⟩ _).alloc _)).drew) (by rw [← HSM.out, decide_eq_decide]; simp [ruls, Rw.r])).mono ?_
                rintro e w5 ⟨rfl, hq⟩
                have hd5 : Below wr.heap.size wr w5 := below_drawn (below_drawn (BEL2.out _ _) ⟨1, rfl⟩) hq
                clear hq
                go_wp2_with fail
                refine hK.out _ _ (by first | ((first | exact KEEP.out _ BEL0.out | exact KEEP.out _ (Below.like (BEL1.out _) rfl rfl rfl rfl) | exact KEEP.out _ (Below.like (BEL2.out _ _) rfl rfl rfl rfl) | exact KEEP.out _ hd5)) | ((try dsimp only); (first | exact KEEP.out _ BEL0.out | exact KEEP.out _ (Below.like (BEL1.out _) rfl rfl rfl rfl) | exact KEEP.out _ (Below.like (BEL2.out _ _) rfl rfl rfl rfl) | exact KEEP.out _ hd5))) (fun hHeld => ?_)
                clear hK K
                try simp only [Act.put, List.getElem_toArray, List.getElem_cons_succ, List.getElem_cons_zero, List.setIfInBounds_toArray, List.set_cons_succ, List.set_cons_zero]
                refine wpAnyH_take (i := 27) (v := ?vz160) rfl (by kernel_rfl) (by kernel_rfl) (by kernel_rfl) (fun _ _ _ h => h) (Or.inl ⟨by rfl, ?hz160⟩) (by assumption) ?rz160
                case hz160 => intro w hSw; (try dsimp only at hSw); go_simp; try with_reducible rfl
                simp only [Act.put, List.getElem_toArray, List.getElem_cons_succ, List.getElem_cons_zero, List.setIfInBounds_toArray, List.set_cons_succ, List.set_cons_zero]
                refine wpAnyH_take (i := 28) (v := undef) rfl (by kernel_rfl) (by kernel_rfl) (by kernel_rfl) (fun _ _ _ h => h) (Or.inr ⟨by rfl, rfl⟩) (by assumption) ?_
                simp only [Act.put, List.getElem_toArray, List.getElem_cons_succ, List.getElem_cons_zero, List.setIfInBounds_toArray, List.set_cons_succ, List.set_cons_zero]
                refine wpAnyH_take (i := 29) (v := undef) rfl (by kernel_rfl) (by kernel_rfl) (by kernel_rfl) (fun _ _ _ h => h) (Or.inr ⟨by rfl, rfl⟩) (by assumption) ?_
                simp only [Act.put, List.getElem_toArray, List.getElem_cons_succ, List.getElem_cons_zero, List.setIfInBounds_toArray, List.set_cons_succ, List.set_cons_zero]
                refine wpAnyH_take (i := 30) (v := undef) rfl (by kernel_rfl) (by kernel_rfl) (by kernel_rfl) (fun _ _ _ h => h) (Or.inr ⟨by rfl, rfl⟩) (by assumption) ?_
                simp only [Act.put, List.getElem_toArray, List.getElem_cons_succ, List.getElem_cons_zero, List.setIfInBounds_toArray, List.set_cons_succ, List.set_cons_zero]
                refine wpAnyH_take (i := 31) (v := undef) rfl (by kernel_rfl) (by kernel_rfl) (by kernel_rfl) (fun _ _ _ h => h) (Or.inr ⟨by rfl, rfl⟩) (by assumption) ?_
                simp only [Act.put, List.getElem_toArray, List.getElem_cons_succ, List.getElem_cons_zero, List.setIfInBounds_toArray, List.set_cons_succ, List.set_cons_zero]
                refine wpAnyH_take (i := 32) (v := undef) rfl (by kernel_rfl) (by kernel_rfl) (by kernel_rfl) (fun _ _ _ h => h) (Or.inr ⟨by rfl, rfl⟩) (by assumption) ?_
                simp only [Act.put, List.getElem_toArray, List.getElem_cons_succ, List.getElem_cons_zero, List.setIfInBounds_toArray, List.set_cons_succ, List.set_cons_zero]
                refine wpAnyH_take (i := 33) (v := undef) rfl (by kernel_rfl) (by kernel_rfl) (by kernel_rfl) (fun _ _ _ h => h) (Or.inr ⟨by rfl, rfl⟩) (by assumption) ?_
                simp only [Act.put, List.getElem_toArray, List.getElem_cons_succ, List.getElem_cons_zero, List.setIfInBounds_toArray, List.set_cons_succ, List.set_cons_zero]
                refine wpAnyH_take (i := 34) (v := undef) rfl (by kernel_rfl) (by kernel_rfl) (by kernel_rfl) (fun _ _ _ h => h) (Or.inr ⟨by rfl, rfl⟩) (by assumption) ?_
                simp only [Act.put, List.getElem_toArray, List.getElem_cons_succ, List.getElem_cons_zero, List.setIfInBounds_toArray, List.set_cons_succ, List.set_cons_zero]
                refine wpAnyH_take (i := 35) (v := undef) rfl (by kernel_rfl) (by kernel_rfl) (by kernel_rfl) (fun _ _ _ h => h) (Or.inr ⟨by rfl, rfl⟩) (by assumption) ?_
                simp only [Act.put, List.getElem_toArray, List.getElem_cons_succ, List.getElem_cons_zero, List.setIfInBounds_toArray, List.set_cons_succ, List.set_cons_zero]
                refine wpAnyH_take (i := 36) (v := undef) rfl (by kernel_rfl) (by kernel_rfl) (by kernel_rfl) (fun _ _ _ h => h) (Or.inr ⟨by rfl, rfl⟩) (by assumption) ?_
                simp only [Act.put, List.getElem_toArray, List.getElem_cons_succ, List.getElem_cons_zero, List.setIfInBounds_toArray, List.set_cons_succ, List.set_cons_zero]
                refine wpAnyH_take (i := 37) (v := undef) rfl (by kernel_rfl) (by kernel_rfl) (by kernel_rfl) (fun _ _ _ h => h) (Or.inr ⟨by rfl, rfl⟩) (by assumption) ?_
                simp only [Act.put, List.getElem_toArray, List.getElem_cons_succ, List.getElem_cons_zero, List.setIfInBounds_toArray, List.set_cons_succ, List.set_cons_zero]
                refine wpAnyH_take (i := 38) (v := undef) rfl (by kernel_rfl) (by kernel_rfl) (by kernel_rfl) (fun _ _ _ h => h) (Or.inr ⟨by rfl, rfl⟩) (by assumption) ?_
                simp only [Act.put, List.getElem_toArray, List.getElem_cons_succ, List.getElem_cons_zero, List.setIfInBounds_toArray, List.set_cons_succ, List.set_cons_zero]
                refine wpAnyH_take (i := 39) (v := ?vz185) rfl (by kernel_rfl) (by kernel_rfl) (by kernel_rfl) (fun _ _ _ h => h) (Or.inl ⟨by rfl, ?hz185⟩) (by assumption) ?rz185
                case hz185 => intro w hSw; (try dsimp only at hSw); go_simp; try with_reducible rfl
                simp only [Act.put, List.getElem_toArray, List.getElem_cons_succ, List.getElem_cons_zero, List.setIfInBounds_toArray, List.set_cons_succ, List.set_cons_zero]
                refine wpAnyH_take (i := 40) (v := ?vz188) rfl (by kernel_rfl) (by kernel_rfl) (by kernel_rfl) (fun _ _ _ h => h) (Or.inl ⟨by rfl, ?hz188⟩) (by assumption) ?rz188
                case hz188 => intro w hSw; (try dsimp only at hSw); go_simp; try with_reducible rfl
                simp only [Act.put, List.getElem_toArray, List.getElem_cons_succ, List.getElem_cons_zero, List.setIfInBounds_toArray, List.set_cons_succ, List.set_cons_zero]
                refine wpAnyH_take (i := 41) (v := ?vz191) rfl (by kernel_rfl) (by kernel_rfl) (by kernel_rfl) (fun _ _ _ h => h) (Or.inl ⟨by rfl, ?hz191⟩) (by assumption) ?rz191
                case hz191 => intro w hSw; (try dsimp only at hSw); go_simp; try with_reducible rfl
                simp only [Act.put, List.getElem_toArray, List.getElem_cons_succ, List.getElem_cons_zero, List.setIfInBounds_toArray, List.set_cons_succ, List.set_cons_zero]
                refine wpAnyH_done (by kernel_rfl) ?_ _
                have HD5 : Hid (Below w4.heap.size w4 w5) := HB.out.trans (hd5.mono HB.out.size)
                clear hd5
                go_wp2
                go_roundw
                case rel => exact ⟨k + 1, false, by omega, by go_num, rfl, HQ.out, HD5.out⟩
                case measure => simp [intOf]; omega

          · have HQ : Hid (true = ((!ck) || ((ruls o3).take (k + 1)).any fun s => decide (s.like ⟨LL, RR, C⟩) && decide (s.C ≤ C))) := by
              have h := HNX.out _ rfl
              rwa [Bool.true_or] at h
            clear hsl' hsr' hz2 HNX hy1 hy2 hy3
            go_wp2
            go_quiet (fail)
            go_wp2
            go_roundw
            case rel => exact ⟨k + 1, true, by omega, by go_num, rfl, HQ.out, (by exact below_drawn HB.out ⟨_, rfl⟩)⟩
            case measure => simp [intOf]; omega
        · obtain rfl : k = m := by omega
          have hh : h = true := by
            rw [HH.out, List.take_of_length_le (by rw [ruls_length, HT3.out.1]; exact Nat.le_refl _)]
            cases ck
            · rfl
            · have hjl : j < (ruls x0).length := by rw [ruls_length, X3.out.1]; exact hlt
              have h1 := ruls_at x0 j
              rw [HZ1.out, List.getD_eq_getElem?_getD, List.getElem?_eq_getElem hjl, Option.getD_some] at h1
              obtain ⟨s, hs, hsl, hsC⟩ := HN.out.2.2 ⟨LL, RR, C⟩ (by rw [← show _ = (⟨LL, RR, C⟩ : Rul) from h1]; exact List.getElem_mem _) HCK.out
              rw [Bool.not_true, Bool.false_or, List.any_eq_true]
              exact ⟨s, hs, by simp [hsl]; exact hsC⟩
          subst hh
          have HB5 : Hid (Below w3.heap.size w3 wr) := HB4.out.trans (HB.out.mono HB4.out.size)
          clear HB HB4 HH hq1 hq2 hq3
          go_wp2
          go_roundw
          case rel => exact ⟨j + 1, by omega, by go_num, HB5.out⟩
          case measure => simp [intOf]; omega
    · obtain rfl : j = len0 := by omega
      have X4 := Lib.hid (X3.out.below HB.out (Nat.le_refl _))
      have HT4 := Lib.hid (HT3.out.below HB.out (Nat.le_refl _))
      have HB4 : Hid (Below w.heap.size w wr) := HB3.out.trans (HB.out.mono HB3.out.size)
      clear X3 HT3 HB3 HB
      obtain ⟨W4, hW4⟩ : ∃ W4, W4 = wr := ⟨_, rfl⟩
      rw [← hW4] at X4 HT4 HB4
      have HW4 := Lib.hid hW4
      rw [← hW4]
      clear hW4
      go_wp2
      go_loopw [8, 9, 10] (fun kx _iv _ix wr => ∃ k : Nat, k ≤ m ∧ kx = .int .i64 (k : Int) ∧ Hid (∃ q, wr = W4.drewN q)) (fun kx _ _ _ => m - (intOf kx).toNat)
      case atStart => exact ⟨0, Nat.zero_le _, rfl, ⟨0, rfl⟩⟩
      case round =>
        obtain ⟨k, hk, rfl, HQ⟩ := hrel
        by_cases hkm : k < m
        · obtain ⟨b2, o2, la', ln', lc', LL', ra', rn', rc', RR', C', rfl, hb2, _, _, _, _, _, _, _, hz2⟩ := (HT4.out.drawn HQ.out).one k hkm
          have HZ2 := Lib.hid hz2
          have hkmi : (k : Int) < (m : Int) := by omega
          have hPK := HT4.out.piece k 1 (by omega)
          have eK : (o3.drop k).take 1 = [⟨la', ln', lc', LL', ra', rn', rc', RR', C'⟩] := by
            have hko : k < o3.length := by rw [HT4.out.1]; exact hkm
            have h1 := HZ2.out
            rw [List.getD_eq_getElem?_getD, List.getElem?_eq_getElem hko, Option.getD_some] at h1
            rw [List.drop_eq_getElem_cons hko, h1]; rfl
          rw [eK] at hPK
          have HPK := Lib.hid hPK
          have hk1 : (k : Int) + 1 ≤ (c3 : Int) := by omega
          have hk2 : (0 : Int) ≤ (k : Int) := by omega
          have hk3 : (k : Int) ≤ (k : Int) + 1 := by omega
          clear hz2 eK hPK
          go_wp2
          go_loopw [9, 10] (fun iv ix wr => ∃ (i : Nat) (h : Bool), i ≤ j ∧ ix = .int .i64 (i : Int) ∧ iv = .bool h ∧ Hid (h = ((ruls x0).take i).any fun s => decide ((⟨LL', RR', C'⟩ : Rul) = s)) ∧ Hid (∃ q, wr = W4.drewN q)) (fun _ ix _ => j - (intOf ix).toNat)
          case atStart => exact ⟨0, false, Nat.zero_le _, rfl, rfl, (by first | exact (trivial : True) | rfl | simp), HQ.out⟩
          case round =>
            obtain ⟨i, h, hi, rfl, rfl, HH, HQ2⟩ := hrel
            by_cases hij : i < j
            · obtain ⟨b1, o1, la, ln, lc, LL, ra, rn, rc, RR, C, rfl, hb1, _, _, _, _, _, _, _, hz1⟩ := (X4.out.drawn HQ2.out).one i hij
              have hiji : (i : Int) < (j : Int) := by omega
              have hio : i < x0.length := by rw [X4.out.1]; exact hij
              have HNX : Hid (∀ q : Bool, decide ((⟨LL', RR', C'⟩ : Rul) = ⟨LL, RR, C⟩) = q → (h || q) = ((ruls x0).take (i + 1)).any fun s => decide ((⟨LL', RR', C'⟩ : Rul) = s)) := fun q hq => by
                have hir : i < (ruls x0).length := by rw [ruls_length]; exact hio
                have h1 := ruls_at x0 i
                rw [hz1, List.getD_eq_getElem?_getD, List.getElem?_eq_getElem hir, Option.getD_some] at h1
                rw [List.take_succ_eq_append_getElem hir, List.any_append, ← HH.out, h1, ← hq]
                simp [Rw.r]
              cases h
              · have hPI := X4.out.piece i 1 (by omega)
                have eI : (x0.drop i).take 1 = [⟨la, ln, lc, LL, ra, rn, rc, RR, C⟩] := by
                  have h1 := hz1
                  rw [List.getD_eq_getElem?_getD, List.getElem?_eq_getElem hio, Option.getD_some] at h1
                  rw [List.drop_eq_getElem_cons hio, h1]; rfl
                rw [eI] at hPI
                have HPI := Lib.hid hPI
                have hi1 : (i : Int) + 1 ≤ (cap0 : Int) := by omega
                have hi2 : (0 : Int) ≤ (i : Int) := by omega
                have hi3 : (i : Int) ≤ (i : Int) + 1 := by omega
                have hk4 : ¬ c3 = k := by omega
                have hi6 : ¬ cap0 = i := by omega
                have hkw : IntKind.i64.wrap ((k : Int) + 1) = (k : Int) + 1 := by simp [IntKind.wrap, IntKind.signed, IntKind.bits]; omega
                have hiw : IntKind.i64.wrap ((i : Int) + 1) = (i : Int) + 1 := by simp [IntKind.wrap, IntKind.signed, IntKind.bits]; omega
                have hkt : ((k : Int) + 1).toNat = k + 1 := by omega
                have hit : ((i : Int) + 1).toNat = i + 1 := by omega
                have hk9 : (0 : Int) ≤ (k : Int) + 1 := by omega
                have hi9 : (0 : Int) ≤ (i : Int) + 1 := by omega
                obtain ⟨sm, hsm⟩ : ∃ q, decide ((⟨LL', RR', C'⟩ : Rul) = ⟨LL, RR, C⟩) = q := ⟨_, rfl⟩
                have HSM := Lib.hid hsm
                have HQN : Hid (sm = ((ruls x0).take (i + 1)).any fun s => decide ((⟨LL', RR', C'⟩ : Rul) = s)) := by
                  have h := HNX.out _ hsm
                  rwa [Bool.false_or] at h
                clear hz1 eI hPI hsm HNX
                cases sm
                · go_wp2
                  refine wp_region_held_drew (S := (fun _ => True)) (by kernel_rfl) (by first | (trivial) | ((try dsimp only); trivial)) (fun hHeld => ?_)
                  refine wpAnyH_take (i := 0) (v := ?vy1) rfl (by kernel_rfl) (by kernel_rfl) (by kernel_rfl) (fun _ _ _ h => h) (Or.inl ⟨by rfl, ?hy1⟩) (by assumption) ?ry1
                  case hy1 => intro w hSw; (try dsimp only at hSw); go_simp; try with_reducible rfl
                  simp only [Act.put, List.getElem_toArray, List.getElem_cons_succ, List.getElem_cons_zero, List.setIfInBounds_toArray, List.set_cons_succ, List.set_cons_zero]
                  refine wpAnyH_take (i := 1) (v := ?vy4) rfl (by kernel_rfl) (by kernel_rfl) (by kernel_rfl) (fun _ _ _ h => h) (Or.inl ⟨by rfl, ?hy4⟩) (by assumption) ?ry4
                  case hy4 => intro w hSw; (try dsimp only at hSw); go_simp; try with_reducible rfl
                  simp only [Act.put, List.getElem_toArray, List.getElem_cons_succ, List.getElem_cons_zero, List.setIfInBounds_toArray, List.set_cons_succ, List.set_cons_zero]
                  refine wpAnyH_take (i := 2) (v := ?vy7) rfl (by kernel_rfl) (by kernel_rfl) (by kernel_rfl) (fun _ _ _ h => h) (Or.inl ⟨by rfl, ?hy7⟩) (by assumption) ?ry7
                  case hy7 => intro w hSw; (try dsimp only at hSw); go_simp; try with_reducible rfl
                  simp only [Act.put, List.getElem_toArray, List.getElem_cons_succ, List.getElem_cons_zero, List.setIfInBounds_toArray, List.set_cons_succ, List.set_cons_zero]
                  refine wpAnyH_take (i := 3) (v := ?vy10) rfl (by kernel_rfl) (by kernel_rfl) (by kernel_rfl) (fun _ _ _ h => h) (Or.inl ⟨by rfl, ?hy10⟩) (by assumption) ?ry10
                  case hy10 => intro w hSw; (try dsimp only at hSw); go_simp; try with_reducible rfl
                  simp only [Act.put, List.getElem_toArray, List.getElem_cons_succ, List.getElem_cons_zero, List.setIfInBounds_toArray, List.set_cons_succ, List.set_cons_zero]
                  refine wpAnyH_take (i := 4) (v := ?vy13) rfl (by kernel_rfl) (by kernel_rfl) (by kernel_rfl) (fun _ _ _ h => h) (Or.inl ⟨by rfl, ?hy13⟩) (by assumption) ?ry13
                  case hy13 => intro w hSw; (try dsimp only at hSw); go_simp; try with_reducible rfl
                  simp only [Act.put, List.getElem_toArray, List.getElem_cons_succ, List.getElem_cons_zero, List.setIfInBounds_toArray, List.set_cons_succ, List.set_cons_zero]
                  refine wpAnyH_take (i := 5) (v := ?vy16) rfl (by kernel_rfl) (by kernel_rfl) (by kernel_rfl) (fun _ _ _ h => h) (Or.inl ⟨by rfl, ?hy16⟩) (by assumption) ?ry16
                  case hy16 => intro w hSw; (try dsimp only at hSw); go_simp; try with_reducible rfl
                  simp only [Act.put, List.getElem_toArray, List.getElem_cons_succ, List.getElem_cons_zero, List.setIfInBounds_toArray, List.set_cons_succ, List.set_cons_zero]
                  refine wpAnyH_take (i := 6) (v := ?vy19) rfl (by kernel_rfl) (by kernel_rfl) (by kernel_rfl) (fun _ _ _ h => h) (Or.inl ⟨by rfl, ?hy19⟩) (by assumption) ?ry19
                  case hy19 => intro w hSw; (try dsimp only at hSw); go_simp; try with_reducible rfl
                  simp only [Act.put, List.getElem_toArray, List.getElem_cons_succ, List.getElem_cons_zero, List.setIfInBounds_toArray, List.set_cons_succ, List.set_cons_zero]
                  refine wpAnyH_take (i := 7) (v := ?vy22) rfl (by kernel_rfl) (by kernel_rfl) (by kernel_rfl) (fun _ _ _ h => h) (Or.inl ⟨by rfl, ?hy22⟩) (by assumption) ?ry22
                  case hy22 => intro w hSw; (try dsimp only at hSw); go_simp; try with_reducible rfl
                  simp only [Act.put, List.getElem_toArray, List.getElem_cons_succ, List.getElem_cons_zero, List.setIfInBounds_toArray, List.set_cons_succ, List.set_cons_zero]
                  refine wpAnyH_take (i := 8) (v := ?vy25) rfl (by kernel_rfl) (by kernel_rfl) (by kernel_rfl) (fun _ _ _ h => h) (Or.inl ⟨by rfl, ?hy25⟩) (by assumption) ?ry25
                  case hy25 => intro w hSw; (try dsimp only at hSw); go_simp; try with_reducible rfl
                  simp only [Act.put, List.getElem_toArray, List.getElem_cons_succ, List.getElem_cons_zero, List.setIfInBounds_toArray, List.set_cons_succ, List.set_cons_zero]
                  refine wpAnyH_take (i := 9) (v := ?vy28) rfl (by kernel_rfl) (by kernel_rfl) (by kernel_rfl) (fun _ _ _ h => h) (Or.inl ⟨by rfl, ?hy28⟩) (by assumption) ?ry28
                  case hy28 => intro w hSw; (try dsimp only at hSw); go_simp; try with_reducible rfl
                  simp only [Act.put, List.getElem_toArray, List.getElem_cons_succ, List.getElem_cons_zero, List.setIfInBounds_toArray, List.set_cons_succ, List.set_cons_zero]
                  refine wpAnyH_take (i := 10) (v := ?vy31) rfl (by kernel_rfl) (by kernel_rfl) (by kernel_rfl) (fun _ _ _ h => h) (Or.inl ⟨by rfl, ?hy31⟩) (by assumption) ?ry31
                  case hy31 => intro w hSw; (try dsimp only at hSw); go_simp; try with_reducible rfl
                  simp only [Act.put, List.getElem_toArray, List.getElem_cons_succ, List.getElem_cons_zero, List.setIfInBounds_toArray, List.set_cons_succ, List.set_cons_zero]
                  refine wpAnyH_take (i := 11) (v := ?vy34) rfl (by kernel_rfl) (by kernel_rfl) (by kernel_rfl) (fun _ _ _ h => h) (Or.inl ⟨by rfl, ?hy34⟩) (by assumption) ?ry34
                  case hy34 => intro w hSw; (try dsimp only at hSw); go_simp; try with_reducible rfl
                  simp only [Act.put, List.getElem_toArray, List.getElem_cons_succ, List.getElem_cons_zero, List.setIfInBounds_toArray, List.set_cons_succ, List.set_cons_zero]
                  refine wpAnyH_ready (rs := [12]) (by kernel_rfl) (by simp) ?_
                  refine AllReadyH.cons rfl (fun K hK => ?_) AllReadyH.nil
                  go_simp
                  go_at_call 14
                  refine (rsames_is _ _ 1 1 (c3 - k) (cap0 - i) [⟨la', ln', lc', LL', ra', rn', rc', RR', C'⟩] [⟨la, ln, lc, LL, ra, rn, rc, RR, C⟩] _ _ (HPK.out.drawn (by obtain ⟨q, hq⟩ := HQ2.out; exact ⟨q + 1, by rw [hq]; rfl⟩)) (HPI.out.drawn (by obtain ⟨q, hq⟩ := HQ2.out; exact ⟨q + 1, by rw [hq]; rfl⟩)) ((show decide (ruls [(⟨la', ln', lc', LL', ra', rn', rc', RR', C'⟩ : Rw)] = ruls [⟨la, ln, lc, LL, ra, rn, rc, RR, C⟩]) = decide ((⟨LL', RR', C'⟩ : Rul) = ⟨LL, RR, C⟩) by rw [decide_eq_decide]; simp [ruls, Rw.r]).trans HSM.out)).mono ?_
                  rintro e w5 ⟨rfl, q5, rfl⟩
                  go_wp2_with fail
                  refine hK.out _ _ (by first | (trivial) | ((try dsimp only); trivial)) (fun hHeld => ?_)
                  clear hK K
                  try simp only [Act.put, List.getElem_toArray, List.getElem_cons_succ, List.getElem_cons_zero, List.setIfInBounds_toArray, List.set_cons_succ, List.set_cons_zero]
                  refine wpAnyH_take (i := 13) (v := ?vy47) rfl (by kernel_rfl) (by kernel_rfl) (by kernel_rfl) (fun _ _ _ h => h) (Or.inl ⟨by rfl, ?hy47⟩) (by assumption) ?ry47
                  case hy47 => intro w hSw; (try dsimp only at hSw); go_simp; try with_reducible rfl
                  simp only [Act.put, List.getElem_toArray, List.getElem_cons_succ, List.getElem_cons_zero, List.setIfInBounds_toArray, List.set_cons_succ, List.set_cons_zero]
                  refine wpAnyH_take (i := 14) (v := ?vy50) rfl (by kernel_rfl) (by kernel_rfl) (by kernel_rfl) (fun _ _ _ h => h) (Or.inl ⟨by rfl, ?hy50⟩) (by assumption) ?ry50
                  case hy50 => intro w hSw; (try dsimp only at hSw); go_simp; try with_reducible rfl
                  simp only [Act.put, List.getElem_toArray, List.getElem_cons_succ, List.getElem_cons_zero, List.setIfInBounds_toArray, List.set_cons_succ, List.set_cons_zero]
                  refine wpAnyH_done (by kernel_rfl) ?_ _
                  go_wp2
                  go_roundw
                  case rel => exact ⟨i + 1, _, by omega, by go_num, rfl, HQN.out, (by obtain ⟨q, hq⟩ := HQ2.out; exact ⟨q + (1 + q5), by rw [hq]; first | rfl | simp [World.drewN_drewN] | simp [World.drewN_drewN, Nat.add_assoc]⟩)⟩
                  case measure => simp [intOf]; omega
                · go_wp2
                  refine wp_region_held_drew (S := (fun _ => True)) (by kernel_rfl) (by first | (trivial) | ((try dsimp only); trivial)) (fun hHeld => ?_)
                  refine wpAnyH_take (i := 0) (v := ?vx1) rfl (by kernel_rfl) (by kernel_rfl) (by kernel_rfl) (fun _ _ _ h => h) (Or.inl ⟨by rfl, ?hx1⟩) (by assumption) ?rx1
                  case hx1 => intro w hSw; (try dsimp only at hSw); go_simp; try with_reducible rfl
                  simp only [Act.put, List.getElem_toArray, List.getElem_cons_succ, List.getElem_cons_zero, List.setIfInBounds_toArray, List.set_cons_succ, List.set_cons_zero]
                  refine wpAnyH_take (i := 1) (v := ?vx4) rfl (by kernel_rfl) (by kernel_rfl) (by kernel_rfl) (fun _ _ _ h => h) (Or.inl ⟨by rfl, ?hx4⟩) (by assumption) ?rx4
                  case hx4 => intro w hSw; (try dsimp only at hSw); go_simp; try with_reducible rfl
                  simp only [Act.put, List.getElem_toArray, List.getElem_cons_succ, List.getElem_cons_zero, List.setIfInBounds_toArray, List.set_cons_succ, List.set_cons_zero]
                  refine wpAnyH_take (i := 2) (v := ?vx7) rfl (by kernel_rfl) (by kernel_rfl) (by kernel_rfl) (fun _ _ _ h => h) (Or.inl ⟨by rfl, ?hx7⟩) (by assumption) ?rx7
                  case hx7 => intro w hSw; (try dsimp only at hSw); go_simp; try with_reducible rfl
                  simp only [Act.put, List.getElem_toArray, List.getElem_cons_succ, List.getElem_cons_zero, List.setIfInBounds_toArray, List.set_cons_succ, List.set_cons_zero]
                  refine wpAnyH_take (i := 3) (v := ?vx10) rfl (by kernel_rfl) (by kernel_rfl) (by kernel_rfl) (fun _ _ _ h => h) (Or.inl ⟨by rfl, ?hx10⟩) (by assumption) ?rx10
                  case hx10 => intro w hSw; (try dsimp only at hSw); go_simp; try with_reducible rfl
                  simp only [Act.put, List.getElem_toArray, List.getElem_cons_succ, List.getElem_cons_zero, List.setIfInBounds_toArray, List.set_cons_succ, List.set_cons_zero]
                  refine wpAnyH_take (i := 4) (v := ?vx13) rfl (by kernel_rfl) (by kernel_rfl) (by kernel_rfl) (fun _ _ _ h => h) (Or.inl ⟨by rfl, ?hx13⟩) (by assumption) ?rx13
                  case hx13 => intro w hSw; (try dsimp only at hSw); go_simp; try with_reducible rfl
                  simp only [Act.put, List.getElem_toArray, List.getElem_cons_succ, List.getElem_cons_zero, List.setIfInBounds_toArray, List.set_cons_succ, List.set_cons_zero]
                  refine wpAnyH_take (i := 5) (v := ?vx16) rfl (by kernel_rfl) (by kernel_rfl) (by kernel_rfl) (fun _ _ _ h => h) (Or.inl ⟨by rfl, ?hx16⟩) (by assumption) ?rx16
                  case hx16 => intro w hSw; (try dsimp only at hSw); go_simp; try with_reducible rfl
                  simp only [Act.put, List.getElem_toArray, List.getElem_cons_succ, List.getElem_cons_zero, List.setIfInBounds_toArray, List.set_cons_succ, List.set_cons_zero]
                  refine wpAnyH_take (i := 6) (v := ?vx19) rfl (by kernel_rfl) (by kernel_rfl) (by kernel_rfl) (fun _ _ _ h => h) (Or.inl ⟨by rfl, ?hx19⟩) (by assumption) ?rx19
                  case hx19 => intro w hSw; (try dsimp only at hSw); go_simp; try with_reducible rfl
                  simp only [Act.put, List.getElem_toArray, List.getElem_cons_succ, List.getElem_cons_zero, List.setIfInBounds_toArray, List.set_cons_succ, List.set_cons_zero]
                  refine wpAnyH_take (i := 7) (v := ?vx22) rfl (by kernel_rfl) (by kernel_rfl) (by kernel_rfl) (fun _ _ _ h => h) (Or.inl ⟨by rfl, ?hx22⟩) (by assumption) ?rx22
                  case hx22 => intro w hSw; (try dsimp only at hSw); go_simp; try with_reducible rfl
                  simp only [Act.put, List.getElem_toArray, List.getElem_cons_succ, List.getElem_cons_zero, List.setIfInBounds_toArray, List.set_cons_succ, List.set_cons_zero]
                  refine wpAnyH_take (i := 8) (v := ?vx25) rfl (by kernel_rfl) (by kernel_rfl) (by kernel_rfl) (fun _ _ _ h => h) (Or.inl ⟨by rfl, ?hx25⟩) (by assumption) ?rx25
                  case hx25 => intro w hSw; (try dsimp only at hSw); go_simp; try with_reducible rfl
                  simp only [Act.put, List.getElem_toArray, List.getElem_cons_succ, List.getElem_cons_zero, List.setIfInBounds_toArray, List.set_cons_succ, List.set_cons_zero]
                  refine wpAnyH_take (i := 9) (v := ?vx28) rfl (by kernel_rfl) (by kernel_rfl) (by kernel_rfl) (fun _ _ _ h => h) (Or.inl ⟨by rfl, ?hx28⟩) (by assumption) ?rx28
                  case hx28 => intro w hSw; (try dsimp only at hSw); go_simp; try with_reducible rfl
                  simp only [Act.put, List.getElem_toArray, List.getElem_cons_succ, List.getElem_cons_zero, List.setIfInBounds_toArray, List.set_cons_succ, List.set_cons_zero]
                  refine wpAnyH_take (i := 10) (v := ?vx31) rfl (by kernel_rfl) (by kernel_rfl) (by kernel_rfl) (fun _ _ _ h => h) (Or.inl ⟨by rfl, ?hx31⟩) (by assumption) ?rx31
                  case hx31 => intro w hSw; (try dsimp only at hSw); go_simp; try with_reducible rfl
                  simp only [Act.put, List.getElem_toArray, List.getElem_cons_succ, List.getElem_cons_zero, List.setIfInBounds_toArray, List.set_cons_succ, List.set_cons_zero]
                  refine wpAnyH_take (i := 11) (v := ?vx34) rfl (by kernel_rfl) (by kernel_rfl) (by kernel_rfl) (fun _ _ _ h => h) (Or.inl ⟨by rfl, ?hx34⟩) (by assumption) ?rx34
                  case hx34 => intro w hSw; (try dsimp only at hSw); go_simp; try with_reducible rfl
                  simp only [Act.put, List.getElem_toArray, List.getElem_cons_succ, List.getElem_cons_zero, List.setIfInBounds_toArray, List.set_cons_succ, List.set_cons_zero]
                  refine wpAnyH_ready (rs := [12]) (by kernel_rfl) (by simp) ?_
                  refine AllReadyH.cons rfl (fun K hK => ?_) AllReadyH.nil
                  go_simp
                  go_at_call 14
                  refine (rsames_is _ _ 1 1 (c3 - k) (cap0 - i) [⟨la', ln', lc', LL', ra', rn', rc', RR', C'⟩] [⟨la, ln, lc, LL, ra, rn, rc, RR, C⟩] _ _ (HPK.out.drawn (by obtain ⟨q, hq⟩ := HQ2.out; exact ⟨q + 1, by rw [hq]; rfl⟩)) (HPI.out.drawn (by obtain ⟨q, hq⟩ := HQ2.out; exact ⟨q + 1, by rw [hq]; rfl⟩)) ((show decide (ruls [(⟨la', ln', lc', LL', ra', rn', rc', RR', C'⟩ : Rw)] = ruls [⟨la, ln, lc, LL, ra, rn, rc, RR, C⟩]) = decide ((⟨LL', RR', C'⟩ : Rul) = ⟨LL, RR, C⟩) by rw [decide_eq_decide]; simp [ruls, Rw.r]).trans HSM.out)).mono ?_
                  rintro e w5 ⟨rfl, q5, rfl⟩
                  go_wp2_with fail
                  refine hK.out _ _ (by first | (trivial) | ((try dsimp only); trivial)) (fun hHeld => ?_)
                  clear hK K
                  try simp only [Act.put, List.getElem_toArray, List.getElem_cons_succ, List.getElem_cons_zero, List.setIfInBounds_toArray, List.set_cons_succ, List.set_cons_zero]
                  refine wpAnyH_take (i := 13) (v := ?vx47) rfl (by kernel_rfl) (by kernel_rfl) (by kernel_rfl) (fun _ _ _ h => h) (Or.inl ⟨by rfl, ?hx47⟩) (by assumption) ?rx47
                  case hx47 => intro w hSw; (try dsimp only at hSw); go_simp; try with_reducible rfl
                  simp only [Act.put, List.getElem_toArray, List.getElem_cons_succ, List.getElem_cons_zero, List.setIfInBounds_toArray, List.set_cons_succ, List.set_cons_zero]
                  refine wpAnyH_take (i := 14) (v := ?vx50) rfl (by kernel_rfl) (by kernel_rfl) (by kernel_rfl) (fun _ _ _ h => h) (Or.inl ⟨by rfl, ?hx50⟩) (by assumption) ?rx50
                  case hx50 => intro w hSw; (try dsimp only at hSw); go_simp; try with_reducible rfl
                  simp only [Act.put, List.getElem_toArray, List.getElem_cons_succ, List.getElem_cons_zero, List.setIfInBounds_toArray, List.set_cons_succ, List.set_cons_zero]
                  refine wpAnyH_done (by kernel_rfl) ?_ _
                  go_wp2
                  go_roundw
                  case rel => exact ⟨i + 1, _, by omega, by go_num, rfl, HQN.out, (by obtain ⟨q, hq⟩ := HQ2.out; exact ⟨q + (1 + q5), by rw [hq]; first | rfl | simp [World.drewN_drewN] | simp [World.drewN_drewN, Nat.add_assoc]⟩)⟩
                  case measure => simp [intOf]; omega
              · have HQN : Hid (true = ((ruls x0).take (i + 1)).any fun s => decide ((⟨LL', RR', C'⟩ : Rul) = s)) := by
                  have h := HNX.out _ rfl
                  rwa [Bool.true_or] at h
                clear hz1 HNX
                go_wp2
                go_quiet (fail)
                go_wp2
                go_roundw
                case rel => exact ⟨i + 1, true, by omega, by go_num, rfl, HQN.out, (by obtain ⟨q, hq⟩ := HQ2.out; exact ⟨_, by rw [hq, World.drewN_drewN]⟩)⟩
                case measure => simp [intOf]; omega
            · obtain rfl : i = j := by omega
              have hh : h = true := by
                rw [HH.out, List.take_of_length_le (by rw [ruls_length, X4.out.1]; exact Nat.le_refl _), List.any_eq_true]
                have hkr : k < (ruls o3).length := by rw [ruls_length, HT4.out.1]; exact hkm
                have h1 := ruls_at o3 k
                rw [HZ2.out, List.getD_eq_getElem?_getD, List.getElem?_eq_getElem hkr, Option.getD_some] at h1
                refine ⟨_, (HN.out.2.1 _ (List.getElem_mem hkr)).1, ?_⟩
                rw [h1]; simp [Rw.r]
              subst hh
              clear HH
              go_wp2
              go_roundw
              case rel => exact ⟨k + 1, by omega, by go_num, HQ2.out⟩
              case measure => simp [intOf]; omega
        · obtain rfl : k = m := by omega
          have hle : (k : Int) ≤ (j : Int) := by omega
          have HBF : Hid (Below w.heap.size w wr) := below_drawn HB4.out HQ.out
          go_wp2
          go_ret
          exact ⟨rfl, HBF.out⟩

set_option maxRecDepth 100000 in
theorem lifted (os : Os) (started : os.Started) (H : Type) (enc : TypeId × Value → H) :
    ReturnsInHanded {} Try.checked os 5 .any (Rows.ruleHasSpec.pre6 enc Try.prog Try.f5 Rows.ruleHasRow.domain false) (Rows.ruleHasSpec.post enc Try.prog Try.f5 false true false false) := by
  refine returnsInHanded_of_change_sized (C := Try.checked) own started (by kernel_rfl) Try.func5
    (ChangeSpec.witness6 (enc := enc) (C := Try.checked) false ⟨#[], #[.slice none 0 0], []⟩ 8 (by kernel_rfl) (by kernel_rfl) (by kernel_rfl) (by kernel_rfl)) ?_
  intro W base args ds gs before hval0 hW hcnd hsz0 _
  have hsz : (DataW.weightsEach Try.prog (Try.f5.params.toList ++ Rows.ruleHasSpec.plain.varTypes Try.prog) (ds ++ gs)).all (· ≤ reachBytes) = true := hsz0
  clear hsz0
  have hval : ∀ (j : Nat) t v, Try.f5.params[j]? = some t → args[j]? = some v → Value.okWide Try.prog W .any base t v := hval0
  have hW' := hW
  obtain ⟨p, q, hA0, hV, rfl, hfz, hnd⟩ := hW
  have hA : DataW.TrodAll enc Try.prog W 0 (fun _ => true) true Try.f5.params.toList args.toList ds p := hA0
  rw [Try.params5] at hA hval hsz
  obtain ⟨v0, vs0, d0, ds0, p0, q0, hargs, rfl, rfl, h0, r0⟩ := trodAll_cons hA
  obtain ⟨rfl, rfl, rfl⟩ := trodAll_nil r0
  obtain rfl : args = #[v0] := by cases args; simp_all
  obtain ⟨rfl, rfl⟩ := trodVars_none hV
  obtain ⟨a0, len0, cap0, rfl⟩ := okWide_slice Try.underlying22 (hval 0 22 v0 rfl rfl)
  have k0 := h0
  have lt0 : ∀ x ∈ p0, x.block < W.heap.size := by obtain ⟨m, hm⟩ := k0; exact DataW.trod_lt m _ _ _ hm
  obtain ⟨x0, w0, n0, hr0⟩ : ∃ xs, Rs W a0 len0 cap0 xs ∧ (a0 = none → cap0 = 0) ∧ len0 * 56 ≤ 140737488351232 := by
    obtain ⟨fuel, hf⟩ := h0
    obtain ⟨a, l, c, xs, hcs, hrs, hnil, hsz1⟩ := Rs.open hf
    simp only [Value.slice.injEq] at hcs
    obtain ⟨rfl, rfl, rfl⟩ := hcs
    refine ⟨xs, hrs, hnil, ?_⟩
    rcases hsz1 with h0 | ⟨elems, spare, hd, hel⟩
    · omega
    · have hd' : d0 = .slice elems spare := hd
      subst hd'
      have hb56 : Try.prog.bytesOf 26 = 56 := by kernel_rfl
      have := sized_slice hsz (j := 0) (t := 22) (e := 26) rfl rfl Try.underlying22
      rw [hb56] at this
      simp only [reachBytes] at this
      omega
  clear hA0 hval0
  refine (walk a0 len0 cap0 x0 W w0 n0 hr0).mono fun e W' ⟨he, bel⟩ => ?_
  subst he
  exact ⟨_, rfl, _, _, _, [], _, [], hW', trodAll_mk1 (shut_bool Try.underlying4 _), (trodAll_cons_mk (Below.trod laidOut (by kernel_rfl) (of_decide_eq_true (by kernel_rfl)) k0 bel lt0) trodAll_mk0), rfl, bel.frame _, fun h => by cases h⟩

theorem over : Rows.ruleHasRow.holds Try.pinned (OpenSpec.ofChange Rows.ruleHasSpec) :=
  OpenClaim.holds_of_wide 5 Try.f5 rfl rfl rfl rfl rfl rfl rfl ⟨rfl, rfl, rfl, rfl, rfl⟩ rfl rfl rfl rfl rfl (by kernel_rfl) Try.func5 (by kernel_rfl)
    (of_decide_eq_true (by kernel_rfl)) (by unfold Func.isWrapper; first | (rw [if_pos (by decide +kernel)]; kernel_rfl) | (rw [if_neg (by decide +kernel)]; exact ⟨rfl, rfl⟩))
    (fun os started H enc _ => lifted os started H enc)

/-- the statement -/
theorem proved : Rows.RuleHasSaid := over
#print axioms proved
end Go.Proofs.Ytcpilhgofdnigaa.ruleHas
