/- For every list, WordsHas answers true, and turns nothing that was there. No condition. -/
import Derived.Test.YtflikfnehpaohaaRows
import Derived.Test.YtflikfnehpaohaaWordAwake
import Derived.WalkKit
import Derived.ProofKit
import Derived.OpenShut
import Derived.ShutString
import Derived.ChangeOld
import Derived.Below
import Derived.Deep.Matrix
import Derived.SizedLaws
namespace Go.Proofs.Ytflikfnehpaohaa.wordsHas
open Go.ChangeShapes Go.WideShapes Go.ChangeAt Go.RowKit
set_option linter.unusedVariables false

theorem own : ownKnob Try.prog.godebug = none := by kernel_rfl
theorem laidOut : laidOutB Try.prog = true := by kernel_rfl

/-- a slice of integers that came in -/
def IsRow (k : IntKind) (w : World) (a : Option Addr) (len cap : Nat) (zs : List Int) : Prop :=
  (a = none ∧ len = 0 ∧ cap = 0 ∧ zs = []) ∨
  ∃ x, a = some x ∧ len ≤ cap ∧ cap ≤ maxLen ∧ zs.length = cap ∧ (∀ i, i < zs.length → w.cell? (x.add i) = some (.int k (zs.getD i 0))) ∧ ∀ n ∈ zs, (Lit.int k n).wf = true

theorem said_snoc (l : List (List Int)) (z : List Int) : (Wl.said (l ++ [z])).length = (Wl.said l).length + if Line.bare z = true then 0 else 1 := by
  rw [Wl.said_app, List.length_append]
  by_cases h : Line.bare z = true
  · rw [Wl.said_bare h, if_pos h]; rfl
  · rw [Wl.said_not (by simpa using h), if_neg h]; rfl
theorem said_in {ls : List (List Int)} {z : List Int} (hz : z ∈ ls) (hb : Line.bare z = false) : (Wl.word z).1 ∈ Wl.said ls := by
  unfold Wl.said
  exact List.mem_map.2 ⟨z, List.mem_filter.2 ⟨hz, by rw [hb]; rfl⟩, rfl⟩
theorem quiet_fit {w w' : World} {e : Ending} {v : Value} (h : e = .returned v ∧ w' = w) : e = .returned v ∧ ∃ q, w' = w.drewN q := ⟨h.1, 0, by rw [h.2]; rfl⟩

/-! ### STEP 1: the walk -/
set_option maxHeartbeats 6400000 in
set_option maxRecDepth 100000 in
theorem walk (a0 : Option Addr) (len0 cap0 : Nat) (z0 : List Int) (w : World) (w0 : IsRow .u8 w a0 len0 cap0 z0) :
    Calls Try.prog 5 #[.slice a0 len0 cap0] w fun e w' => e = .returned (.bool true) ∧ Below w.heap.size w w' := by
  have hn00 : a0 = none → cap0 = 0 := by
    rcases w0 with ⟨_, _, h, _⟩ | ⟨x, h, _⟩
    · exact fun _ => h
    · intro h'; rw [h] at h'; cases h'
  have HN0 := Lib.hid hn00
  clear hn00
  have hs0 := Sl.of_row w0
  generalize z0.take len0 = xs at hs0
  have hcm0 := hs0.2.2.1
  have hnc0 := hs0.2.1
  unfold maxLen at hcm0
  have HS0 := Lib.hid hs0
  have HLEN0 := Lib.hid hs0.1
  clear hs0 w0
  obtain ⟨ls, hls⟩ : ∃ ls, Line.split xs = ls := ⟨_, rfl⟩
  obtain ⟨⟨ws3, at3, er3⟩, hg3⟩ : ∃ g, Wl.read xs = g := ⟨_, rfl⟩
  have HG3 := Lib.hid hg3
  have HLS := Lib.hid hls
  have HSH : Hid (∀ x ∈ ls, x.length ≤ len0) := fun x hx => by rw [← HLEN0.out]; exact split_le xs x (by rw [hls]; exact hx)
  have HNT : Hid (∀ x ∈ ls, ∀ c ∈ x, c ≠ 10) := fun x hx => Line.split_no xs x (by rw [hls]; exact hx)
  clear hg3 hls
  go_enter Try.func5, Try.ntmps5
  go_wp2_with fail
  refine (awake_any _).mono ?_
  rintro e v1 ⟨rfl, B1⟩
  have S1 := Lib.hid (HS0.out.below B1 (Nat.le_refl _))
  by_cases g0 : 3000 < len0
  · have hi0 : (3000 : Int) < (len0 : Int) := by omega
    go_wp2
    go_ret
    exact ⟨rfl, B1⟩
  have hi0 : decide ((3000 : Int) < (len0 : Int)) = false := by simp; omega
  go_wp2_with fail
  refine (wread_is a0 len0 cap0 xs _ _ S1.out HN0.out (by omega) HG3.out).mono ?_
  rintro e v3 ⟨p3, n3, c3, xs3, rfl, hws3, hnu3, -, hb3⟩
  have B3 := B1.trans (hb3.mono B1.size)
  have S3 := Lib.hid (S1.out.below hb3 (Nat.le_refl _))
  have XX3 := Lib.hid hws3
  have NX : Hid (nums xs3 = ws3) := hnu3
  have hnc3 := hws3.2.1
  have hcm3 := hws3.2.2.1
  unfold maxLen at hcm3
  clear hb3 hws3 hnu3
  simp only []
  go_wp2_with fail
  refine (split_own a0 len0 cap0 xs _ S3.out HN0.out (by omega)).mono ?_
  rintro e v4 ⟨la, M, lc, rows, rfl, hrows, hbn, -, hb4, hform⟩
  have B4 : Hid (Below w.heap.size w v4) := B3.trans (hb4.mono B3.size)
  have XX4 := Lib.hid (XX3.out.below hb4 (Nat.le_refl _))
  have HROWS := Lib.hid hrows
  have HBN : Hid (bnums rows = ls) := by show _ = _; rw [hbn, HLS.out]
  have HFORM := Lib.hid hform
  have HLM : Hid (ls.length = M) := by show _ = _; rw [← HBN.out, bnums_length, hrows.1]
  have hlcm := hrows.2.2.1
  have hMlc := hrows.2.1
  unfold maxLen at hlcm
  clear hrows hbn hform hb4
  have hlay : ∀ (W : World) (i : Nat), i < M → Below v4.heap.size v4 W → ∃ b1 o1 za zn zc z, la = some ⟨b1, o1, none⟩ ∧ b1 < W.heap.size ∧ W.cell? ⟨b1, o1 + i, none⟩ = some (.slice za zn zc) ∧ Sl .u8 W za zn zc z ∧ (za = none → zc = 0) ∧ ls.getD i [] = z ∧ z ∈ ls ∧ zn ≤ 1000000 := fun W i hi hW => by
    obtain ⟨b1, o1, za, zn, zc, z, h1, h2, hgd, hcl, hsl, hz⟩ := (HROWS.out.below hW (Nat.le_refl _)).one i hi
    have hzl : ls.getD i [] = z := by rw [← HBN.out]; exact hz
    have hzin : z ∈ ls := by rw [← hzl, List.getD_eq_getElem?_getD, List.getElem?_eq_getElem (by rw [HLM.out]; exact hi), Option.getD_some]; exact List.getElem_mem _
    refine ⟨b1, o1, za, zn, zc, z, h1, h2, hcl, hsl, fun e => ?_, hzl, hzin, by have h1 := HSH.out z hzin; have : z.length = zn := hsl.1; omega⟩
    have hm : rows.getD i Bd.no ∈ rows := by rw [List.getD_eq_getElem?_getD, List.getElem?_eq_getElem (by rw [HROWS.out.1]; exact hi), Option.getD_some]; exact List.getElem_mem _
    obtain ⟨b, hb⟩ := HFORM.out _ hm
    rw [hgd] at hb
    simp only at hb
    rw [e] at hb; cases hb
  have HLAY := Lib.hid hlay
  clear hlay
  by_cases he3 : er3 = 0
  · have hx := Wl.read_ok (b := xs) (by rw [HG3.out]; exact he3)
    rw [HG3.out, HLS.out] at hx
    simp only at hx
    obtain ⟨hx1, hx2, hx3, hx4, hx5, hx6⟩ := hx
    subst he3
    subst hx5
    have HOKL := Lib.hid hx1
    have HSRT : Hid (ws3 = srt (Wl.said ls)) := hx2
    have HRIS := Lib.hid hx3
    have HFIT := Lib.hid hx6
    have hn3 : n3 ≤ 300 := by rw [← XX4.out.1, ← nums_length, NX.out]; exact hx4
    have hM1 : M ≤ 3001 := by
      have h3 := Line.split_total xs
      rw [HLS.out, HLEN0.out] at h3
      have h4 : ∀ l : List (List Int), l.length ≤ Line.total l := by
        intro l
        induction l with
        | nil => simp
        | cons x l ih => unfold Line.total at ih ⊢; simp only [List.length_cons, List.map_cons, List.sum_cons]; omega
      have := h4 ls
      rw [HLM.out] at this
      omega
    clear hx1 hx2 hx3 hx4 hx6
    go_wp2
    go_loopw [8, 9] (fun cv ix wr => ∃ i cn : Nat, i ≤ M ∧ cv = .int .i64 (cn : Int) ∧ ix = .int .i64 (i : Int) ∧ cn ≤ i ∧ Hid ((Wl.said (ls.take i)).length = cn) ∧ Hid (Below v4.heap.size v4 wr)) (fun _ ix _ => M - (intOf ix).toNat)
    case atStart => exact ⟨0, 0, Nat.zero_le _, rfl, rfl, Nat.le_refl _, (by first | rfl | trivial), Below.refl _ _⟩
    case round =>
      obtain ⟨i, cn, hi, rfl, rfl, hcni, HC, HBW⟩ := hrel
      by_cases hlt : i < M
      · obtain ⟨b1, o1, za, zn, zc, z, rfl, hb1', hcl, hsl, hzn, hzl, hzin, hznl⟩ := HLAY.out wr i hlt HBW.out
        have HSL := Lib.hid hsl
        have HZN := Lib.hid hzn
        have HCL := Lib.hid hcl
        have HT : Hid (ls.take (i + 1) = ls.take i ++ [z]) := by
          have hil : i < ls.length := by rw [HLM.out]; exact hlt
          show _ = _
          rw [List.take_succ_eq_append_getElem hil, ← hzl]
          simp [hil]
        have hlti : (i : Int) < (M : Int) := by omega
        clear hsl hzn hzl
        cases hq : Line.bare z
        · have HQB := Lib.hid hq
          have HW := Lib.hid (Wl.word_fit hq (HOKL.out z hzin hq) (HNT.out z hzin))
          obtain ⟨wd, hwd⟩ : ∃ x, (Wl.word z).1 = x := ⟨_, rfl⟩
          have HIN : Hid (wd ∈ ws3) := by
            have h := said_in hzin hq
            rw [hwd] at h
            show _ ∈ _
            rw [HSRT.out, mem_srt]; exact h
          have HWD := Lib.hid hwd
          clear hwd
          go_wp2_with fail
          refine (bare_any za zn zc z _ HSL.out HZN.out hznl).mono ?_
          rintro e w5 ⟨he, hb5⟩
          rw [HQB.out] at he
          subst he
          have HB5 : Hid (Below v4.heap.size v4 w5) := HBW.out.trans (hb5.mono HBW.out.size)
          have HSL5 := Lib.hid (HSL.out.below hb5 (Nat.le_refl _))
          have hcl5 : w5.cell? ⟨b1, o1 + i, none⟩ = some (.slice za zn zc) := by rw [hb5.cell (p := ⟨b1, o1 + i, none⟩) hb1']; exact HCL.out
          clear hb5 hcl
          go_wp2_with fail
          refine (fields_any za zn zc z _ HSL5.out HZN.out hznl).mono ?_
          rintro e w6 ⟨a6, m6, c6, ys6, rfl, hys, hyf, -, hb6⟩
          have HYS := Lib.hid hys
          have HYF := Lib.hid hyf
          have HB6 : Hid (Below v4.heap.size v4 w6) := HB5.out.trans (hb6.mono HB5.out.size)
          obtain rfl : m6 = 1 := by
            have h := HW.out.2.1
            rw [← HYF.out, bnums_length, HYS.out.1] at h
            exact h
          clear hys hyf hb6 hcl5
          obtain ⟨f, hf⟩ : ∃ f, Line.fields z = [f] := List.length_eq_one_iff.1 HW.out.2.1
          have hsg := HW.out.2.2
          rw [hf] at hsg
          obtain ⟨b, off, fa, fn, fc, fz, rfl, hb, hgd6, hc, hfs, hfz⟩ := HYS.out.one 0 (by omega)
          have hc0 : w6.cell? ⟨b, off, none⟩ = some (.slice fa fn fc) := hc
          obtain rfl : fz = f := by rw [← hfz, HYF.out, hf]; rfl
          have hfn : fn ≤ 17592186044416 := by
            have h1 := hfs.1
            have h2 := Wl.fields_le z fz (by rw [hf]; simp)
            have h3 := HSL.out.1
            omega
          have HFS := Lib.hid hfs
          have HIR : Hid (Utf.IsRead fz (some wd)) := by
            have h := Wl.signs_is fz
            have hs2 : Wl.signs fz = some (Wl.word z).1 := hsg
            rw [hs2, HWD.out] at h
            exact h
          have hmc6 := HYS.out.2.1
          clear hc hfs hfz hgd6 hf hsg
          go_wp2_with fail
          refine (read_ok fa fn fc fz wd _ HFS.out hfn HIR.out).mono ?_
          rintro e w7 ⟨a7, c7, rfl, hs7, hb7⟩
          have HB7 : Hid (Below v4.heap.size v4 w7) := HB6.out.trans (hb7.mono HB6.out.size)
          have HS7 := Lib.hid hs7
          clear hs7 hb7 hc0
          obtain ⟨kk, hkk⟩ : ∃ k, cnt (nums xs3) wd = k := ⟨_, rfl⟩
          have HKK := Lib.hid hkk
          clear hkk
          go_wp2_with fail
          refine (find_is p3 a7 n3 wd.length c3 c7 xs3 wd kk true _ (XX4.out.below HB7.out (Nat.le_refl _)) HS7.out (by rw [NX.out]; exact HRIS.out) HKK.out (by rw [NX.out]; exact decide_eq_true HIN.out) (by omega)).mono ?_
          rintro e w8 ⟨rfl, hb8⟩
          have HB8 : Hid (Below v4.heap.size v4 w8) := HB7.out.trans (hb8.mono HB7.out.size)
          have HCN : Hid ((Wl.said (ls.take (i + 1))).length = cn + 1) := by show _ = _; rw [HT.out, said_snoc, HQB.out, if_neg (by decide), HC.out]
          clear hb8
          go_wp2
          go_roundw
          case rel => exact ⟨i + 1, cn + 1, by omega, by go_num, by go_num, by omega, HCN.out, HB8.out⟩
          case measure => simp [intOf]; omega
        · have HQB := Lib.hid hq
          go_wp2_with fail
          refine (bare_any za zn zc z _ HSL.out HZN.out hznl).mono ?_
          rintro e w5 ⟨he, hb5⟩
          rw [HQB.out] at he
          subst he
          have HB5 : Hid (Below v4.heap.size v4 w5) := HBW.out.trans (hb5.mono HBW.out.size)
          have HCN : Hid ((Wl.said (ls.take (i + 1))).length = cn) := by show _ = _; rw [HT.out, said_snoc, HQB.out, if_pos rfl, HC.out, Nat.add_zero]
          clear hb5
          go_wp2
          go_roundw
          case rel => exact ⟨i + 1, cn, by omega, rfl, by go_num, by omega, HCN.out, HB5.out⟩
          case measure => simp [intOf]; omega
      · obtain rfl : i = M := by omega
        have hlti : ¬ (i : Int) < (i : Int) := by omega
        have HALLC : Hid ((Wl.said ls).length = cn) := by
          have h := HC.out
          rw [List.take_of_length_le (by rw [HLM.out]; exact Nat.le_refl _)] at h
          exact h
        go_wp2
        go_loopw [15] (fun ix wq => ∃ j : Nat, j ≤ n3 ∧ ix = .int .i64 (j : Int) ∧ Hid (Below v4.heap.size v4 wq)) (fun ix _ => n3 - (intOf ix).toNat)
        case atStart => exact ⟨0, Nat.zero_le _, rfl, HBW.out⟩
        case round =>
          obtain ⟨j, hj, rfl, HBQ⟩ := hrel
          by_cases hjn : j < n3
          · obtain ⟨b1, o1, ya, yn, yc, y, rfl, hb1, hgd, hcl, hsl, hz⟩ := (XX4.out.below HBQ.out (Nat.le_refl _)).one j hjn
            have hjl : j < (nums xs3).length := by rw [nums_length, XX4.out.1]; exact hjn
            have hyin : y ∈ ws3 := by
              rw [← NX.out, ← hz, List.getD_eq_getElem?_getD, List.getElem?_eq_getElem hjl, Option.getD_some]
              exact List.getElem_mem _
            have HFY := Lib.hid (HFIT.out y hyin)
            have HNE : Hid (decide (y = []) = false) := decide_eq_false (Wl.fit_parts HFY.out).1
            have HY := Lib.hid hsl
            have HYZ := Lib.hid hz
            have hjni : (j : Int) < (n3 : Int) := by omega
            rcases Nat.eq_zero_or_pos j with h0 | hp
            · subst h0
              have hcl0 : wr.cell? ⟨b1, o1, none⟩ = some (.slice ya yn yc) := hcl
              clear hsl hz hgd hyin hcl
              go_wp2_with fail
              go_quiet (first | (go_at_call 15; exact Calls.quiet_of ((wfit_is ya yn yc y true _ (HY.out.drewN _) HFY.out).mono fun _ _ h => quiet_fit h)) | (go_at_call 23; exact Calls.quiet_of (same_is ya none yn 0 yc 0 y [] false _ (HY.out.drewN _) Sl.nil HNE.out)))
              go_wp2
              go_roundw
              case rel => exact ⟨0 + 1, by omega, by go_num, below_drewN HBQ.out _⟩
              case measure => simp [intOf]; omega
            · obtain ⟨p', rfl⟩ : ∃ p', j = p' + 1 := ⟨j - 1, by omega⟩
              obtain ⟨b2, o2, ua, un, uc, u, hb2, _, hgd2, hcl2, hsl2, hz2⟩ := (XX4.out.below HBQ.out (Nat.le_refl _)).one p' (by omega)
              simp only [Option.some.injEq, Addr.mk.injEq, and_true] at hb2
              obtain ⟨rfl, rfl⟩ := hb2
              have HU := Lib.hid hsl2
              have HLE : Hid (lessL u y = true) := by
                have h : Rise (nums xs3) := by rw [NX.out]; exact HRIS.out
                have := h.at (show p' < p' + 1 by omega) hjl
                rw [hz2, HYZ.out] at this
                exact this
              have hpos : (0 : Int) < (p' : Int) + 1 := by omega
              have hpw : IntKind.i64.wrap ((p' : Int) + 1 - 1) = (p' : Int) := by rw [IntKind.wrap_i64]; omega
              have hpn : (p' : Int) < (n3 : Int) := by omega
              have hp0 : (0 : Int) ≤ (p' : Int) := by omega
              have hp1 : (0 : Int) ≤ (p' : Int) + 1 := by omega
              have htn : ((p' : Int) + 1).toNat = p' + 1 := by omega
              clear hsl hz hgd hyin hsl2 hz2 hgd2
              go_wp2_with fail
              go_quiet (first | (go_at_call 15; exact Calls.quiet_of ((wfit_is ya yn yc y true _ (HY.out.drewN _) HFY.out).mono fun _ _ h => quiet_fit h)) | (go_at_call 22; exact Calls.quiet_of (less_is ua ya un yn uc yc u y true _ (HU.out.drewN _) (HY.out.drewN _) HLE.out)) | (go_at_call 23; exact Calls.quiet_of (same_is ya none yn 0 yc 0 y [] false _ (HY.out.drewN _) Sl.nil HNE.out)))
              go_wp2
              go_roundw
              case rel => exact ⟨p' + 1 + 1, by omega, by go_num, below_drewN HBQ.out _⟩
              case measure => simp [intOf]; omega
          · have hjni : ¬ (j : Int) < (n3 : Int) := by omega
            have BE : Below w.heap.size w wr := B4.out.trans (HBQ.out.mono B4.out.size)
            have hle : (n3 : Int) ≤ (cn : Int) := by
              have h1 := srt_length (Wl.said ls)
              rw [← HSRT.out, ← NX.out, nums_length, XX4.out.1, HALLC.out] at h1
              omega
            rcases Nat.eq_zero_or_pos cn with h0 | hp
            · subst h0
              obtain rfl : n3 = 0 := by omega
              clear hle hjni
              go_wp2
              go_ret
              exact ⟨rfl, BE⟩
            · have hcn : ((cn : Int) == 0) = false := by simp; omega
              have hn3p : (0 : Int) < (n3 : Int) := by
                have h1 : 0 < (Wl.said ls).length := by rw [HALLC.out]; exact hp
                obtain ⟨q, hq⟩ := List.exists_mem_of_length_pos h1
                have h2 : q ∈ nums xs3 := by rw [NX.out, HSRT.out, mem_srt]; exact hq
                have h3 := List.length_pos_of_mem h2
                rw [nums_length, XX4.out.1] at h3
                omega
              have hn3n : 0 < n3 := by omega
              have hn3d : decide ((0 : Int) < (n3 : Int)) = true := by simp; omega
              go_wp2
              go_ret
              exact ⟨rfl, BE⟩
  · have hx := Wl.read_bad (b := xs) (by rw [HG3.out]; exact he3)
    rw [HG3.out, HLS.out] at hx
    simp only at hx
    obtain ⟨-, k, hk, hat, hbk⟩ := hx
    subst hat
    have hne : (er3 != 0) = true := by simpa using he3
    have hkM : k < M := by rw [← HLM.out]; exact hk
    have hki : (k : Int) < (M : Int) := by omega
    have hk0 : (0 : Int) ≤ (k : Int) := by omega
    obtain ⟨b1, o1, za, zn, zc, z, rfl, hb1', hcl, hsl, hzn, hzl, hzin, hznl⟩ := HLAY.out v4 k hkM (Below.refl _ _)
    have HSL := Lib.hid hsl
    have HZN := Lib.hid hzn
    have HQB : Hid (Line.bare z = false) := by rw [← hzl]; exact hbk
    clear hsl hzn hzl hk hbk
    go_wp2_with fail
    refine (bare_any za zn zc z _ HSL.out HZN.out hznl).mono ?_
    rintro e w5 ⟨he, hb5⟩
    rw [HQB.out] at he
    subst he
    have B5 : Hid (Below w.heap.size w w5) := B4.out.trans (hb5.mono B4.out.size)
    clear hb5
    go_wp2
    go_ret
    exact ⟨rfl, B5.out⟩

set_option maxRecDepth 100000 in
theorem lifted (os : Os) (started : os.Started) (H : Type) (enc : TypeId × Value → H) :
    ReturnsInHanded {} Try.checked os 5 .any (Rows.wordsHasSpec.pre6 enc Try.prog Try.f5 Rows.wordsHasRow.domain false) (Rows.wordsHasSpec.post enc Try.prog Try.f5 false true false false) := by
  refine returnsInHanded_of_change (C := Try.checked) own started (by kernel_rfl) Try.func5
    (ChangeSpec.witness6 (enc := enc) (C := Try.checked) false ⟨#[], #[.slice none 0 0], []⟩ 8 (by kernel_rfl) (by kernel_rfl) (by kernel_rfl) (by kernel_rfl)) ?_
  intro W base args ds gs before hval0 hW hcnd _
  have hval : ∀ (j : Nat) t v, Try.f5.params[j]? = some t → args[j]? = some v → Value.okWide Try.prog W .any base t v := hval0
  have hW' := hW
  obtain ⟨p, q, hA0, hV, rfl, hfz, hnd⟩ := hW
  have hA : DataW.TrodAll enc Try.prog W 0 (fun _ => true) true Try.f5.params.toList args.toList ds p := hA0
  rw [Try.params5] at hA hval
  obtain ⟨v0, vs0, d0, ds0, p0, q0, hargs, rfl, rfl, h0, r0⟩ := trodAll_cons hA
  obtain ⟨rfl, rfl, rfl⟩ := trodAll_nil r0
  obtain rfl : args = #[v0] := by cases args; simp_all
  obtain ⟨rfl, rfl⟩ := trodVars_none hV
  obtain ⟨a0, len0, cap0, rfl⟩ := okWide_slice Try.underlying22 (hval 0 22 v0 rfl rfl)
  have k0 := h0
  have lt0 : ∀ x ∈ p0, x.block < W.heap.size := by obtain ⟨m, hm⟩ := k0; exact DataW.trod_lt m _ _ _ hm
  obtain ⟨z0, w0⟩ : ∃ zs, IsRow .u8 W a0 len0 cap0 zs := by
    obtain ⟨fuel, hf⟩ := h0
    rcases open_ints Try.underlying22 Try.underlying5 (by kernel_rfl) hf with ⟨hcs, _⟩ | ⟨x, l, c, zs, hcs, _, hl, hm, hz, _, hcell, hwz⟩
    · simp [Value.cells] at hcs
      obtain ⟨rfl, rfl, rfl⟩ := hcs
      exact ⟨[], .inl ⟨rfl, rfl, rfl, rfl⟩⟩
    · simp [Value.cells] at hcs
      obtain ⟨rfl, rfl, rfl⟩ := hcs
      exact ⟨zs, .inr ⟨_, rfl, hl, hm, by simpa using hz, hcell, hwz⟩⟩
  clear hA0 hval0
  refine (walk a0 len0 cap0 z0 W w0).mono fun e W' ⟨he, bel⟩ => ?_
  subst he
  exact ⟨_, rfl, _, _, _, [], _, [], hW', trodAll_mk1 (shut_bool Try.underlying4 _), (trodAll_cons_mk (Below.trod laidOut (by kernel_rfl) (of_decide_eq_true (by kernel_rfl)) k0 bel lt0) trodAll_mk0), rfl, bel.frame _, fun h => by cases h⟩

theorem over : Rows.wordsHasRow.holds Try.pinned (OpenSpec.ofChange Rows.wordsHasSpec) :=
  OpenClaim.holds_of_wide 5 Try.f5 rfl rfl rfl rfl rfl rfl rfl ⟨rfl, rfl, rfl, rfl, rfl⟩ rfl rfl rfl rfl rfl (by kernel_rfl) Try.func5 (by kernel_rfl)
    (of_decide_eq_true (by kernel_rfl)) (by unfold Func.isWrapper; first | (rw [if_pos (by decide +kernel)]; kernel_rfl) | (rw [if_neg (by decide +kernel)]; exact ⟨rfl, rfl⟩))
    (fun os started H enc _ => lifted os started H enc)

/-- the statement -/
theorem proved : Rows.WordsHasSaid := over
#print axioms proved
end Go.Proofs.Ytflikfnehpaohaa.wordsHas
