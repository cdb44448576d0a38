/- For every list of bytes and every number, SpecBlanks answers true, and turns nothing that was there. No condition. -/
import Derived.Test.YtdeicfdbjmpliaaRows
import Derived.Test.YtdeicfdbjmpliaaSpecAwake
import Derived.WalkKit
import Derived.ProofKit
import Derived.OpenShut
import Derived.ShutString
import Derived.ChangeOld
import Derived.Below
import Derived.Deep.Matrix
import Derived.SizedLaws
namespace Go.Proofs.Ytdeicfdbjmpliaa.specBlanks
open Go.ChangeShapes Go.WideShapes Go.ChangeAt Go.RowKit
set_option linter.unusedVariables false

theorem own : ownKnob Try.prog.godebug = none := by kernel_rfl
theorem laidOut : laidOutB Try.prog = true := by kernel_rfl

/-- a slice of integers that came in -/
def IsRow (k : IntKind) (w : World) (a : Option Addr) (len cap : Nat) (zs : List Int) : Prop :=
  (a = none ∧ len = 0 ∧ cap = 0 ∧ zs = []) ∨
  ∃ x, a = some x ∧ len ≤ cap ∧ cap ≤ maxLen ∧ zs.length = cap ∧ (∀ i, i < zs.length → w.cell? (x.add i) = some (.int k (zs.getD i 0))) ∧ ∀ n ∈ zs, (Lit.int k n).wf = true

/-- blanks -/
def sep : Nat → List Int
  | 0 => []
  | k + 1 => sep k ++ [32, 9]
theorem sep_blank : ∀ k, ∀ c ∈ sep k, Line.isBlank c = true
  | 0 => by simp [sep]
  | k + 1 => by
    intro c hc
    rcases List.mem_append.1 hc with hc | hc
    · exact sep_blank k c hc
    · simp at hc; rcases hc with rfl | rfl <;> rfl
theorem sep_len : ∀ k, (sep k).length = 2 * k
  | 0 => rfl
  | k + 1 => by rw [sep, List.length_append, sep_len k]; simp; omega
def join (D : Nat) (fs : List (List Int)) : List Int := fs.flatMap fun f => sep D ++ f ++ [9]
theorem join_app (D : Nat) (a b : List (List Int)) : join D (a ++ b) = join D a ++ join D b := by simp [join]
theorem fields_join (D : Nat) : ∀ fs : List (List Int), (∀ f ∈ fs, f ≠ [] ∧ ∀ c ∈ f, Line.isBlank c = false) → Line.fields (join D fs) = fs
  | [], _ => rfl
  | f :: fs, h => by
    have h1 := h f (by simp)
    have e : join D (f :: fs) = sep D ++ f ++ 9 :: join D fs := by simp [join]
    rw [e, Line.fields_one (sep D) f _ (sep_blank D) h1.2 h1.1 9 rfl, fields_join D fs (fun x hx => h x (by simp [hx]))]
theorem read_join (D : Nat) (zs : List Int) : Spec.read (join D (Line.fields zs)) = Spec.read zs := by
  have h := fields_join D (Line.fields zs) (Line.fields_no zs)
  unfold Spec.read Line.bare
  rw [h]
theorem fieldsA_total : ∀ (b cur : List Int), ((Line.fieldsA cur b).map List.length).sum ≤ cur.length + b.length ∧ (Line.fieldsA cur b).length ≤ b.length + 1
  | [], cur => by
    unfold Line.fieldsA
    split <;> simp
  | c :: cs, cur => by
    unfold Line.fieldsA
    split
    · split
      · have := fieldsA_total cs []; simp at this ⊢; omega
      · have := fieldsA_total cs []; simp at this ⊢; omega
    · have := fieldsA_total cs (cur ++ [c]); simp at this ⊢; omega
theorem join_len (D : Nat) : ∀ fs : List (List Int), (join D fs).length = (fs.map List.length).sum + (2 * D + 1) * fs.length
  | [] => by simp [join]
  | f :: fs => by
    have e : join D (f :: fs) = (sep D ++ f ++ [9]) ++ join D fs := by simp [join]
    rw [e, List.length_append, join_len D fs]
    simp only [List.length_append, List.length_cons, List.length_nil, List.map_cons, List.sum_cons, sep_len, Nat.mul_add]
    omega
theorem join_few {D : Nat} {zs : List Int} (hD : D ≤ 2) (hz : zs.length ≤ 1000) : (join D (Line.fields zs)).length ≤ 10000 := by
  have h := fieldsA_total zs []
  change ((Line.fields zs).map List.length).sum ≤ 0 + zs.length ∧ (Line.fields zs).length ≤ zs.length + 1 at h
  rw [join_len]
  have : (2 * D + 1) * (Line.fields zs).length ≤ 5 * 1001 := Nat.mul_le_mul (by omega) (by omega)
  omega
theorem join_take {D i : Nat} {fs : List (List Int)} : (join D (fs.take i)).length ≤ (join D fs).length := by
  have : join D fs = join D (fs.take i) ++ join D (fs.drop i) := by rw [← join_app, List.take_append_drop]
  rw [this, List.length_append]; omega
theorem join_next {D i : Nat} {fs : List (List Int)} {f : List Int} (h : i < fs.length) (hf : fs.getD i [] = f) : join D (fs.take (i + 1)) = join D (fs.take i) ++ sep D ++ f ++ [9] := by
  rw [List.take_succ_eq_append_getElem h, join_app]
  have e : fs[i] = f := by rw [← hf]; simp [h]
  rw [e]; simp [join]
theorem blanks_wf : ∀ z ∈ ([32, 9] : List Int), (Lit.int .u8 z).wf = true := by decide

/-! ### STEP 1: the walk -/
set_option maxHeartbeats 6400000 in
set_option maxRecDepth 100000 in
theorem walk (a0 : Option Addr) (len0 cap0 : Nat) (z0 : List Int) (a1 : Int) (w : World) (w0 : IsRow .u8 w a0 len0 cap0 z0) (w1 : (Lit.int .u8 a1).wf = true) :
    Calls Try.prog 7 #[.slice a0 len0 cap0, .int .u8 a1] w fun e w' => e = .returned (.bool true) ∧ Below w.heap.size w w' := by
  have hn00 : a0 = none → cap0 = 0 := by
    rcases w0 with ⟨_, _, h, _⟩ | ⟨x, h, _⟩
    · exact fun _ => h
    · intro h'; rw [h] at h'; cases h'
  have HN0 := Lib.hid hn00
  clear hn00
  have hs0 := Sl.of_row w0
  generalize z0.take len0 = xs at hs0
  have hcm0 := hs0.2.2.1
  have hnc0 := hs0.2.1
  unfold maxLen at hcm0
  have HS := Lib.hid hs0
  have hzl := hs0.1
  clear hs0 w0
  have hb1 := bounds_u8 w1
  obtain ⟨D, hD⟩ : ∃ D : Nat, a1 % 3 = (D : Int) := ⟨(a1 % 3).toNat, by omega⟩
  have hD2 : D ≤ 2 := by omega
  have HI : Hid ((Try.prog.info? 32).map (·.size) = some 2) := info_spec
  clear w1
  by_cases g0 : 1000 < len0
  · have hi0 : (1000 : Int) < (len0 : Int) := by omega
    go_enter Try.func7, Try.ntmps7
    go_wp2_with fail
    refine (awake_any _).mono ?_
    rintro e w1 ⟨rfl, B1⟩
    go_wp2
    go_ret
    exact ⟨rfl, B1⟩
  have hi0 : ¬ (1000 : Int) < (len0 : Int) := by omega
  obtain ⟨s, hsr⟩ : ∃ s, Spec.read xs = s := ⟨_, rfl⟩
  have HSR := Lib.hid hsr
  have HJF : Hid ((join D (Line.fields xs)).length ≤ 10000) := join_few hD2 (by omega)
  have HSHZ : Hid (∀ x ∈ Line.fields xs, x.length ≤ 1000) := fun x hx => by have := fields_short x hx; omega
  clear hsr hzl
  go_enter Try.func7, Try.ntmps7
  go_wp2_with fail
  refine (awake_any _).mono ?_
  rintro e w1 ⟨rfl, B1⟩
  have S1 := Lib.hid (HS.out.below B1 (Nat.le_refl _))
  have HB1 := Lib.hid B1
  clear B1
  go_wp2_with fail
  refine (fields_any a0 len0 cap0 xs w1 S1.out HN0.out (by omega)).mono ?_
  rintro e w2 ⟨fa, m, fc, ys, rfl, hys, hyf, hyn, hb2⟩
  have S2 := Lib.hid (S1.out.below hb2 (Nat.le_refl _))
  have HB2 : Hid (Below w.heap.size w w2) := HB1.out.trans (hb2.mono HB1.out.size)
  have HYS := Lib.hid hys
  have HYF := Lib.hid hyf
  have HML : Hid ((bnums ys).length = m) := by show _ = _; rw [bnums_length, hys.1]
  have hmc := hys.2.1
  have hmm := hys.2.2.1
  unfold maxLen at hmm
  clear hys hyf hyn hb2 S1 HB1
  go_wp2
  go_loopw [7, 8] (fun ov ix wr => ∃ (i L : Nat) (a' : Option Addr) (c' : Nat), i ≤ m ∧ ix = .int .i64 (i : Int) ∧ ov = .slice a' L c' ∧ L ≤ 10000 ∧ Hid ((join D ((bnums ys).take i)).length = L) ∧ Hid (wr.ownsRow w2.heap.size 5 1 (.slice a' L c') L (u8s (join D ((bnums ys).take i)))) ∧ Hid (∀ z ∈ join D ((bnums ys).take i), (Lit.int .u8 z).wf = true) ∧ Hid (a' = none → c' = 0) ∧ Hid (Below w2.heap.size w2 wr)) (fun _ ix _ => m - (intOf ix).toNat)
  case atStart => exact ⟨0, 0, none, 0, Nat.zero_le _, rfl, rfl, Nat.zero_le _, (by first | trivial | rfl), World.ownsRow_nil _ _ _ _, (by first | trivial | (intro z hz; simp [join] at hz)), (fun _ => rfl), Below.refl _ _⟩
  case round =>
    obtain ⟨i, L, a', c', hi, rfl, rfl, hL, HJL, HO, HW, HN, HB⟩ := hrel
    by_cases hlt : i < m
    · have hlti : (i : Int) < (m : Int) := by omega
      go_wp2
      go_loopw [7, 9] (fun ov kx wr' => ∃ (k M : Nat) (a2 : Option Addr) (c2 : Nat), k ≤ D ∧ kx = .int .i64 (k : Int) ∧ ov = .slice a2 M c2 ∧ M ≤ 10000 + 2 * k ∧ Hid (M = L + 2 * k) ∧ Hid (wr'.ownsRow w2.heap.size 5 1 (.slice a2 M c2) M (u8s (join D ((bnums ys).take i) ++ sep k))) ∧ Hid (Below w2.heap.size w2 wr')) (fun _ kx _ => D - (intOf kx).toNat)
      case atStart => exact ⟨0, L, a', c', Nat.zero_le _, rfl, rfl, by omega, (by show _ = _; omega), (by show World.ownsRow _ _ _ _ _ _ _; rw [show sep 0 = [] from rfl, List.append_nil]; exact HO.out), HB.out⟩
      case round =>
        obtain ⟨k, M, a2, c2, hk, rfl, rfl, hM, HME, HO2, HBK⟩ := hrel
        by_cases hlk : k < D
        · have hlki : (k : Int) < (D : Int) := by omega
          have hsz2 := HBK.out.size
          go_wp2_with (at_builtin; refine append_bytes (by rfl) (.tmp 34) (.tmp 35) (by rfl) w2.heap.size _ M (join D ((bnums ys).take i) ++ sep k) (by rfl) (HO2.out.alloc _) (some ⟨wr.heap.size, 0, none⟩) 2 2 [32, 9] (by rfl) (Sl.newB [32, 9] blanks_wf (by unfold maxLen; simp) rfl rfl rfl) (M + 2) rfl (by omega) (by simp; omega) ?_
                       intro a8 c8 w8 hown8 hb8 hn8
                       have HO8 := Lib.hid hown8
                       have HB8 : Hid (Below w2.heap.size w2 w8) := (HBK.out.alloc hsz2 _).trans hb8
                       clear hown8 hb8 hn8)
          go_roundw
          case rel =>
            refine ⟨k + 1, M + 2, a8, c8, by omega, by go_num, rfl, by omega, ?_, ?_, HB8.out⟩
            · have := HME.out; show _ = _; omega
            · have h := HO8.out
              rw [List.append_assoc] at h
              exact h
          case measure => simp [intOf]; omega
        · obtain rfl : k = D := by omega
          obtain ⟨b1, o1, fa1, fn1, fc1, f1, rfl, hbb, hyi, hcell, hsl, hz1⟩ := (HYS.out.below HBK.out (Nat.le_refl _)).one i hlt
          have hfl : fn1 ≤ 1000 := by
            have h1 := HSHZ.out f1 (by rw [← HYF.out, ← hz1, List.getD_eq_getElem?_getD, List.getElem?_eq_getElem (by rw [HML.out]; exact hlt), Option.getD_some]; exact List.getElem_mem _)
            rw [hsl.1] at h1; exact h1
          have HSL := Lib.hid hsl
          have hjn := join_next (D := k) (i := i) (fs := bnums ys) (f := f1) (by rw [HML.out]; exact hlt) hz1
          have HJN := Lib.hid hjn
          have hsz2 := HBK.out.size
          obtain ⟨M3, hM3⟩ : ∃ M3, M + fn1 = M3 := ⟨_, rfl⟩
          obtain ⟨M4, hM4⟩ : ∃ M4, M3 + 1 = M4 := ⟨_, rfl⟩
          clear hyi hsl hz1 hjn hbb
          go_wp2_with first
            | (at_builtin; refine append_bytes (by rfl) (.tmp 37) (.tmp 41) (by rfl) w2.heap.size _ M (join k ((bnums ys).take i) ++ sep k) (by rfl) HO2.out fa1 fn1 fc1 f1 (by rfl) HSL.out M3 hM3 (by omega) hsz2 ?_
               intro a8 c8 w8 hown8 hb8 hn8
               have HO8 := Lib.hid hown8
               have HB8 : Hid (Below w2.heap.size w2 w8) := HBK.out.trans hb8
               have hsz8 := HB8.out.size
               clear hown8 hb8 hn8)
            | (at_builtin; refine append_bytes (by rfl) (.tmp 42) (.tmp 43) (by rfl) w2.heap.size _ M3 ((join k ((bnums ys).take i) ++ sep k) ++ f1) (by rfl) (HO8.out.alloc _) (some ⟨w8.heap.size, 0, none⟩) 1 1 [9] (by rfl) (Sl.newB [9] (by decide) (by unfold maxLen; simp) rfl rfl rfl) M4 hM4 (by omega) (by simp; omega) ?_
               intro a9 c9 w9 hown9 hb9 hn9
               have HO9 := Lib.hid hown9
               have HN9 := Lib.hid hn9
               have HB9 : Hid (Below w2.heap.size w2 w9) := (HB8.out.alloc hsz8 _).trans hb9
               clear hown9 hb9 hn9)
          have hl4 : (join k ((bnums ys).take (i + 1))).length = M4 := by
            rw [HJN.out]
            have h1 := HJL.out; have h2 := HME.out; have h3 := HSL.out.1
            simp only [List.length_append, List.length_cons, List.length_nil, sep_len]
            omega
          have HL4 := Lib.hid hl4
          clear hl4
          go_roundw
          case rel =>
            refine ⟨i + 1, M4, a9, c9, by omega, by go_num, rfl, ?_, HL4.out, ?_, ?_, HN9.out, HB9.out⟩
            · have h1 := HL4.out
              have h2 := join_take (D := k) (i := i + 1) (fs := bnums ys)
              have h3 := HJF.out
              rw [← HYF.out] at h3
              omega
            · show World.ownsRow _ _ _ _ _ _ _
              rw [HJN.out]; exact HO9.out
            · intro z hz
              rw [HJN.out] at hz
              simp only [List.mem_append] at hz
              rcases hz with ((hz | hz) | hz) | hz
              · exact HW.out z hz
              · have := sep_blank k z hz
                simp [Line.isBlank] at this
                rcases this with rfl | rfl <;> decide
              · exact HSL.out.2.2.2.1 z hz
              · revert z; decide
          case measure => simp [intOf]; omega
    · obtain rfl : i = m := by omega
      have htk : (bnums ys).take i = Line.fields xs := by rw [List.take_of_length_le (by rw [HML.out]; exact Nat.le_refl _), HYF.out]
      have HOT : Hid (Sl .u8 wr a' L c' (join D (Line.fields xs))) := by
        have h1 := HO.out; have h2 := HW.out; have h3 := HJL.out
        rw [htk] at h1 h2 h3
        exact Sl.of_owns (k := .u8) h1 h2 h3
      have S3 := Lib.hid (S2.out.below HB.out (Nat.le_refl _))
      have HB3 : Hid (Below w.heap.size w wr) := HB2.out.trans (HB.out.mono HB2.out.size)
      have hee : (s.e == s.e) = true := by simp
      clear htk S2 HO HW HJL HYS
      go_wp2_with fail
      refine (read7_is a0 len0 cap0 xs s wr S3.out HN0.out (by omega) HSR.out).mono ?_
      rintro e v1 ⟨ba1, bn1, bc1, ra1, rn1, rc1, xs1, rfl, hbs1, _, hrs1, hru1, _, hb1'⟩
      have HV1 : Hid (Below w.heap.size w v1) := HB3.out.trans (hb1'.mono HB3.out.size)
      have HOT1 := Lib.hid (HOT.out.below hb1' (Nat.le_refl _))
      have HBS1 := Lib.hid hbs1
      have HRS1 := Lib.hid hrs1
      have HRU1 := Lib.hid hru1
      clear hbs1 hrs1 hru1 hb1'
      go_wp2_with fail
      refine (read7_gen a' L c' (join D (Line.fields xs)) s _ (HOT1.out.alloc _) HN.out (by omega) (by rw [fields_join D _ (Line.fields_no xs)]; exact HSHZ.out) (by rw [read_join]; exact HSR.out)).mono ?_
      rintro e v2 ⟨ba2, bn2, bc2, ra2, rn2, rc2, xs2, rfl, hbs2, _, hrs2, hru2, _, hb2'⟩
      have h12 : Below v1.heap.size v1 v2 := ((Below.refl v1.heap.size v1).alloc (Nat.le_refl _) _).trans (hb2'.mono (by simp))
      have HV2 : Hid (Below w.heap.size w v2) := HV1.out.trans (h12.mono HV1.out.size)
      have HP1 : Hid (∀ o, (v2.alloc o).heap[v1.heap.size]? = some (.cells #[.slice ba1 bn1 bc1, .slice ra1 rn1 rc1] 32 (0, 0))) := fun o => by
        have h1 : v2.heap[v1.heap.size]? = some (.cells #[.slice ba1 bn1 bc1, .slice ra1 rn1 rc1] 32 (0, 0)) := (hb2'.block _ (by simp)).trans (heap_alloc_new v1 _)
        exact ((World.grownBy_alloc v2 o none).block _ (Array.getElem?_eq_some_iff.1 h1).1 (by simp)).trans h1
      have HP2 : Hid (∀ o, (v2.alloc o).heap[v2.heap.size]? = some o) := fun o => heap_alloc_new v2 o
      have HBS1' := Lib.hid (HBS1.out.below h12 (Nat.le_refl _))
      have HRS1' := Lib.hid (HRS1.out.below h12 (Nat.le_refl _))
      have HBS2 := Lib.hid hbs2
      have HRS2 := Lib.hid hrs2
      have HRU2 := Lib.hid hru2
      have HI1 : Hid ((Try.prog.info? 32).map (·.size) = some (#[Value.slice ba1 bn1 bc1, Value.slice ra1 rn1 rc1]).size) := HI.out
      have HI2 : Hid ((Try.prog.info? 32).map (·.size) = some (#[Value.slice ba2 bn2 bc2, Value.slice ra2 rn2 rc2]).size) := HI.out
      clear hbs2 hrs2 hru2 hb2' h12
      go_wp2_with first
        | (refine wpList_load_row_w (by rfl) 32 (.tmp 10) (by rfl) v1.heap.size (by rfl) 32 #[.slice ba1 bn1 bc1, .slice ra1 rn1 rc1] (0, 0) _ (HP1.out _) Try.underlying32 (by rfl) HI1.out ?_)
        | (refine wpList_load_row_w (by rfl) 32 (.tmp 12) (by rfl) v2.heap.size (by rfl) 32 #[.slice ba2 bn2 bc2, .slice ra2 rn2 rc2] (0, 0) _ (HP2.out _) Try.underlying32 (by rfl) HI2.out ?_)
      refine (rsamesp_is ba1 bn1 bc1 s.base ra1 rn1 rc1 xs1 ba2 bn2 bc2 s.base ra2 rn2 rc2 xs2 true _ (HBS1'.out.alloc _) (HRS1'.out.alloc _) (HBS2.out.alloc _) (HRS2.out.alloc _) (by rw [HRU1.out, HRU2.out]; simp)).mono ?_
      rintro e v3 ⟨rfl, hb3⟩
      have HV3 : Hid (Below w.heap.size w v3) := (HV2.out.alloc HV2.out.size _).trans (hb3.mono (by have := HV2.out.size; simp; omega))
      clear hb3
      go_wp2
      go_ret
      exact ⟨rfl, HV3.out⟩

set_option maxRecDepth 100000 in
theorem lifted (os : Os) (started : os.Started) (H : Type) (enc : TypeId × Value → H) :
    ReturnsInHanded {} Try.checked os 7 .any (Rows.specBlanksSpec.pre6 enc Try.prog Try.f7 Rows.specBlanksRow.domain false) (Rows.specBlanksSpec.post enc Try.prog Try.f7 false true false false) := by
  refine returnsInHanded_of_change (C := Try.checked) own started (by kernel_rfl) Try.func7
    (ChangeSpec.witness6 (enc := enc) (C := Try.checked) false ⟨#[], #[.slice none 0 0, .int .u8 0], []⟩ 8 (by kernel_rfl) (by kernel_rfl) (by kernel_rfl) (by kernel_rfl)) ?_
  intro W base args ds gs before hval0 hW hcnd _
  have hval : ∀ (j : Nat) t v, Try.f7.params[j]? = some t → args[j]? = some v → Value.okWide Try.prog W .any base t v := hval0
  have hW' := hW
  obtain ⟨p, q, hA0, hV, rfl, hfz, hnd⟩ := hW
  have hA : DataW.TrodAll enc Try.prog W 0 (fun _ => true) true Try.f7.params.toList args.toList ds p := hA0
  rw [Try.params7] at hA hval
  obtain ⟨v0, vs0, d0, ds0, p0, q0, hargs, rfl, rfl, h0, r0⟩ := trodAll_cons hA
  obtain ⟨v1, vs1, d1, ds1, p1, q1, rfl, rfl, rfl, h1, r1⟩ := trodAll_cons r0
  obtain ⟨rfl, rfl, rfl⟩ := trodAll_nil r1
  obtain rfl : args = #[v0, v1] := by cases args; simp_all
  obtain ⟨rfl, rfl⟩ := trodVars_none hV
  obtain ⟨a0, len0, cap0, rfl⟩ := okWide_slice Try.underlying22 (hval 0 22 v0 rfl rfl)
  have k0 := h0
  have lt0 : ∀ x ∈ p0, x.block < W.heap.size := by obtain ⟨m, hm⟩ := k0; exact DataW.trod_lt m _ _ _ hm
  obtain ⟨z0, w0⟩ : ∃ zs, IsRow .u8 W a0 len0 cap0 zs := by
    obtain ⟨fuel, hf⟩ := h0
    rcases open_ints Try.underlying22 Try.underlying5 (by kernel_rfl) hf with ⟨hcs, _⟩ | ⟨x, l, c, zs, hcs, _, hl, hm, hz, _, hcell, hwz⟩
    · simp [Value.cells] at hcs
      obtain ⟨rfl, rfl, rfl⟩ := hcs
      exact ⟨[], .inl ⟨rfl, rfl, rfl, rfl⟩⟩
    · simp [Value.cells] at hcs
      obtain ⟨rfl, rfl, rfl⟩ := hcs
      exact ⟨zs, .inr ⟨_, rfl, hl, hm, by simpa using hz, hcell, hwz⟩⟩
  obtain ⟨a1, rfl, rfl, rfl, w1⟩ := open_int Try.underlying5 (hval 1 5 v1 rfl rfl) h1
  clear hA0 hval0
  refine (walk a0 len0 cap0 z0 a1 W w0 w1).mono fun e W' ⟨he, bel⟩ => ?_
  subst he
  exact ⟨_, rfl, _, _, _, [], _, [], hW', trodAll_mk1 (shut_bool Try.underlying4 _), (trodAll_cons_mk (Below.trod laidOut (by kernel_rfl) (of_decide_eq_true (by kernel_rfl)) k0 bel lt0) (trodAll_cons_mk (shut_int Try.underlying5 w1) trodAll_mk0)), rfl, bel.frame _, fun h => by cases h⟩

theorem over : Rows.specBlanksRow.holds Try.pinned (OpenSpec.ofChange Rows.specBlanksSpec) :=
  OpenClaim.holds_of_wide 7 Try.f7 rfl rfl rfl rfl rfl rfl rfl ⟨rfl, rfl, rfl, rfl, rfl⟩ rfl rfl rfl rfl rfl (by kernel_rfl) Try.func7 (by kernel_rfl)
    (of_decide_eq_true (by kernel_rfl)) (by unfold Func.isWrapper; first | (rw [if_pos (by decide +kernel)]; kernel_rfl) | (rw [if_neg (by decide +kernel)]; exact ⟨rfl, rfl⟩))
    (fun os started H enc _ => lifted os started H enc)

/-- the statement -/
theorem proved : Rows.SpecBlanksSaid := over
#print axioms proved
end Go.Proofs.Ytdeicfdbjmpliaa.specBlanks
