/- For all words and every word, DawgHas answers true, and turns nothing that was there. No condition. -/
import Derived.Test.YtgbiobhladeooaaRows
import Derived.Test.YtgbiobhladeooaaDawgAwake
import Derived.Test.YtgbiobhladeooaaDawgLawW
import Derived.Test.YtgbiobhladeooaaDawgDef
import Derived.Test.YtgbiobhladeooaaPackN
import Derived.Test.YtgbiobhladeooaaOrderWalkA
import Derived.WalkKit
import Derived.ProofKit
import Derived.OpenShut
import Derived.ShutString
import Derived.ChangeOld
import Derived.Below
import Derived.Deep.Matrix
import Derived.SizedLaws
namespace Go.Proofs.Ytgbiobhladeooaa.dawgHas
open Go.ChangeShapes Go.WideShapes Go.ChangeAt Go.RowKit
set_option linter.unusedVariables false

theorem own : ownKnob Try.prog.godebug = none := by kernel_rfl
theorem laidOut : laidOutB Try.prog = true := by kernel_rfl

/-- a slice of integers that came in -/
def IsRow (k : IntKind) (w : World) (a : Option Addr) (len cap : Nat) (zs : List Int) : Prop :=
  (a = none ∧ len = 0 ∧ cap = 0 ∧ zs = []) ∨
  ∃ x, a = some x ∧ len ≤ cap ∧ cap ≤ maxLen ∧ zs.length = cap ∧ (∀ i, i < zs.length → w.cell? (x.add i) = some (.int k (zs.getD i 0))) ∧ ∀ n ∈ zs, (Lit.int k n).wf = true

open Tri Daw
theorem dmade_err (ws : List (List Int)) : (dmade ws).2 = (Wl.write ws).2 ∧ ((dmade ws).2 ≠ 0 → (dmade ws).1 = []) := by
  unfold dmade
  by_cases he : (Wl.write ws).2 = 0
  · rw [if_pos he]; exact ⟨he.symm, fun h => absurd rfl h⟩
  · rw [if_neg he]; exact ⟨rfl, fun _ => rfl⟩
theorem dmade_ok {ws : List (List Int)} (h : (dmade ws).2 = 0) : ws.length ≤ 300 ∧ (∀ z ∈ ws, Wl.fit z = true) ∧ Rise ws ∧ dmade ws = (dmake ws, 0) ∧ made ws = (make ws, 0) := by
  unfold dmade at h ⊢
  unfold made
  by_cases he : (Wl.write ws).2 = 0
  · rw [if_pos he, if_pos he]
    rcases Wl.write_err ws with ⟨_, h1, h2, h3, _⟩ | ⟨h1, _⟩
    · exact ⟨h1, h2, h3, rfl, rfl⟩
    · exact absurd he h1
  · rw [if_neg he] at h; exact absurd h he
theorem short_fit {ws : List (List Int)} (h : ∀ z ∈ ws, Wl.fit z = true) : Tri.Short ws := fun z hz => (Wl.fit_parts (h z hz)).2.1
theorem good_fit {ws : List (List Int)} (h : ∀ z ∈ ws, Wl.fit z = true) : ∀ w ∈ ws, Utf.allGood w = true := fun z hz => (Wl.fit_parts (h z hz)).2.2.1
/-- a state's first cell -/
theorem final_cell {w : World} {a : Option Addr} {n cap : Nat} {ys : List Sw} {ws : List (List Int)} {k : Nat} {z : List Int} (h : Ss w a n cap ys) (he : sts ys = dmake ws) (hz : z ∈ begs ws) (hk : cls ws z = k) :
    ∃ b off, a = some ⟨b, off, none⟩ ∧ k < n ∧ w.cell? ⟨b, off + k * 2, none⟩ = some (.bool (decide (z ∈ ws))) := by
  subst hk
  have hn : n = (kinds ws).length := by rw [← dmake_length, ← he, sts_length, h.1]
  have hk := (cls_spec hz).1
  obtain ⟨b, off, f, sa, sn, sc, arcs, ha, _, h1, _, _, h2⟩ := h.one (cls ws z) (by omega)
  refine ⟨b, off, ha, by omega, ?_⟩
  have h3 := dfinal hz
  rw [← he, sts_at, h2] at h3
  rw [h1, ← h3]; rfl
theorem take_one {ws : List (List Int)} {i : Nat} {z : List Int} (h : i < ws.length) (hz : ws.getD i [] = z) : ws.take (i + 1) = ws.take i ++ [z] := by
  rw [List.take_succ_eq_append_getElem h, ← hz]; simp [h]
/-- whether one begins with the word, of the first ones -/
def Bg (ws : List (List Int)) (i : Nat) (zs : List Int) (b : Bool) : Prop := b = true ↔ (zs = [] ∨ ∃ x ∈ ws.take i, common x zs = zs.length)
def En (ws : List (List Int)) (i : Nat) (zs : List Int) (b : Bool) : Prop := b = true ↔ zs ∈ ws.take i
theorem Bg.next {ws : List (List Int)} {i : Nat} {zs z : List Int} {b : Bool} (h : Bg ws i zs b) (hi : i < ws.length) (hz : ws.getD i [] = z) : Bg ws (i + 1) zs (b || decide (common z zs = zs.length)) := by
  unfold Bg at *
  rw [take_one hi hz, Bool.or_eq_true, h, decide_eq_true_eq]
  constructor
  · rintro ((h | ⟨x, hx, h⟩) | h)
    · exact .inl h
    · exact .inr ⟨x, by simp [hx], h⟩
    · exact .inr ⟨z, by simp, h⟩
  · rintro (h | ⟨x, hx, h⟩)
    · exact .inl (.inl h)
    · rcases List.mem_append.1 hx with hx | hx
      · exact .inl (.inr ⟨x, hx, h⟩)
      · rw [List.mem_singleton.1 hx] at h; exact .inr h
theorem En.next {ws : List (List Int)} {i : Nat} {zs z : List Int} {b : Bool} (h : En ws i zs b) (hi : i < ws.length) (hz : ws.getD i [] = z) : En ws (i + 1) zs (b || (decide (common z zs = zs.length) && decide (common z zs = z.length))) := by
  unfold En at *
  rw [take_one hi hz, Bool.or_eq_true, h, Bool.and_eq_true, decide_eq_true_eq, decide_eq_true_eq, List.mem_append, List.mem_singleton]
  constructor
  · rintro (h | ⟨h1, h2⟩)
    · exact .inl h
    · exact .inr (common_whole h2 h1).symm
  · rintro (h | h)
    · exact .inl h
    · subst h; exact .inr ⟨common_self _, common_self _⟩
theorem Bg.all {ws : List (List Int)} {zs : List Int} {b : Bool} (h : Bg ws ws.length zs b) (hs : Tri.Short ws) : b = decide (zs ∈ begs ws) := by
  unfold Bg at h
  rw [List.take_length, ← begs_common hs] at h
  cases b
  · refine (decide_eq_false fun hz => ?_).symm
    have := h.2 hz; cases this
  · exact (decide_eq_true (h.1 rfl)).symm
theorem En.all {ws : List (List Int)} {zs : List Int} {b : Bool} (h : En ws ws.length zs b) : b = decide (zs ∈ ws) := by
  unfold En at h
  rw [List.take_length] at h
  cases b
  · refine (decide_eq_false fun hz => ?_).symm
    have := h.2 hz; cases this
  · exact (decide_eq_true (h.1 rfl)).symm

/-! ### STEP 1: the walk -/
set_option maxHeartbeats 6400000 in
set_option maxRecDepth 100000 in
theorem walk (a0 : Option Addr) (len0 cap0 : Nat) (x0 : List Wd) (a1 : Option Addr) (len1 cap1 : Nat) (z1 : List Int) (w : World) (w0 : Ws w a0 len0 cap0 x0) (n0 : a0 = none → cap0 = 0) (w1 : IsRow .i64 w a1 len1 cap1 z1) :
    Calls Try.prog 4 #[.slice a0 len0 cap0, .slice a1 len1 cap1] w fun e w' => e = .returned (.bool true) ∧ Below w.heap.size w w' := by
  have hcm0 := w0.2.2.1
  have hnc0 := w0.2.1
  unfold maxLen at hcm0
  have HX0 := Lib.hid w0
  have HXN0 := Lib.hid n0
  clear w0 n0
  have hs1 := Sl.of_row w1
  generalize z1.take len1 = zs at hs1
  have hcm1 := hs1.2.2.1
  have hnc1 := hs1.2.1
  unfold maxLen at hcm1
  have HS1 := Lib.hid hs1
  clear hs1 w1
  have HZL := Lib.hid HS1.out.1
  obtain ⟨⟨gl, ge⟩, hg⟩ : ∃ g, dmade (nums x0) = g := ⟨_, rfl⟩
  obtain ⟨tl, htl⟩ : ∃ t, made (nums x0) = (t, ge) := by
    refine ⟨(made (nums x0)).1, ?_⟩
    have h1 := (dmade_err (nums x0)).1
    have h2 := (made_parts (ws := nums x0)).1
    rw [hg, ← h2] at h1
    exact Prod.ext rfl h1.symm
  have HG := Lib.hid hg
  have HT := Lib.hid htl
  clear hg htl
  have hib : (100 < len1 → (100 : Int) < (len1 : Int)) ∧ (len1 ≤ 100 → ¬ (100 : Int) < (len1 : Int)) := ⟨fun h => by omega, fun h => by omega⟩
  go_enter Try.func4, Try.ntmps4
  go_wp2_with fail
  refine (awake_any _).mono ?_
  rintro e v1 ⟨rfl, B1⟩
  have X1 := Lib.hid (HX0.out.below B1 (Nat.le_refl _))
  have S1 := Lib.hid (HS1.out.below B1 (Nat.le_refl _))
  go_wp2_with fail
  refine (few_of 100 100 a0 len0 cap0 x0 _ rfl X1.out).mono ?_
  rintro e v3 ⟨he, rfl⟩
  rcases he with rfl | ⟨rfl, -, hn60⟩
  · go_wp2
    go_ret
    exact ⟨rfl, B1⟩
  by_cases g1 : 100 < len1
  · have hi1 := hib.1 g1
    clear hib
    go_wp2
    go_ret
    exact ⟨rfl, B1⟩
  have hi1 := hib.2 (by omega)
  clear hib
  go_wp2_with fail
  refine (dmake_is a0 len0 cap0 x0 _ _ X1.out HXN0.out HG.out).mono ?_
  rintro e v2 ⟨p4, n4, c4, y4, rfl, hs4, hst4, -, hb4⟩
  have B2 := B1.trans (hb4.mono B1.size)
  have X2 := Lib.hid (X1.out.below hb4 (Nat.le_refl _))
  have S2 := Lib.hid (S1.out.below hb4 (Nat.le_refl _))
  have Y2 := Lib.hid hs4
  have T4' : Hid (sts y4 = gl) := hst4
  clear hb4 hs4 hst4
  simp only []
  go_wp2_with fail
  refine (tmake_is a0 len0 cap0 x0 _ _ X2.out HXN0.out HT.out).mono ?_
  rintro e v4 ⟨pt, nt, ct, yt, rfl, hst, hstt, -, hbt⟩
  have B4 := B2.trans (hbt.mono B2.size)
  have X4 := Lib.hid (X2.out.below hbt (Nat.le_refl _))
  have S4 := Lib.hid (S2.out.below hbt (Nat.le_refl _))
  have Y4 := Lib.hid (Y2.out.below hbt (Nat.le_refl _))
  have HNT : Hid (tl.length = nt) := by
    have h : sts yt = tl := hstt
    rw [← h, sts_length]; exact hst.1
  clear hbt hst hstt
  simp only []
  by_cases hge : ge = 0
  · subst hge
    have HOK := Lib.hid (dmade_ok (ws := nums x0) (by rw [HG.out]))
    have T4 : Hid (sts y4 = dmake (nums x0)) := by have h := HOK.out.2.2.2.1; rw [HG.out] at h; show _ = _; rw [T4'.out]; exact congrArg Prod.fst h
    have HSH : Hid (Tri.Short (nums x0)) := short_fit HOK.out.2.1
    have HRI := Lib.hid HOK.out.2.2.1
    have HLX : Hid ((nums x0).length = len0) := by show _ = _; rw [nums_length, X4.out.1]
    have HCHK : Hid (check (dmake (nums x0)) = true) := dmake_check HSH.out HRI.out (good_fit HOK.out.2.1) HOK.out.1
    have HLST : Hid (least (dmake (nums x0)) = true) := dmake_least HSH.out HRI.out (good_fit HOK.out.2.1) HOK.out.1
    have HN4 : Hid ((kinds (nums x0)).length = n4) := by
      show _ = _
      rw [← Y4.out.1, ← sts_length, T4.out, dmake_length]
    have HPOS : Hid (0 < n4) := by
      show 0 < n4
      rw [← HN4.out]; exact kinds_pos _
    have HLE : Hid ((n4 : Int) ≤ (nt : Int)) := by
      show (n4 : Int) ≤ (nt : Int)
      have h := HOK.out.2.2.2.2
      rw [HT.out] at h
      have h2 : tl = make (nums x0) := congrArg Prod.fst h
      have h3 := kinds_le (nums x0)
      rw [HN4.out] at h3
      rw [← HNT.out, h2, make_length]
      omega
    clear T4' HG HT HNT
    by_cases hmem : zs ∈ begs (nums x0)
    · obtain ⟨k0, hk0⟩ : ∃ k, cls (nums x0) zs = k := ⟨_, rfl⟩
      have HK0 : Hid (zs ∈ begs (nums x0) ∧ cls (nums x0) zs = k0) := ⟨hmem, hk0⟩
      have HWK : Hid (Tri.walk (dmake (nums x0)) 0 zs = some (k0 : Int)) := by have h := (dwalk HSH.out HRI.out zs).1 hmem; rw [hk0] at h; exact h
      have HMEM : Hid (decide (zs ∈ begs (nums x0)) = true) := decide_eq_true hmem
      clear hk0 hmem
      go_wp2_with fail
      refine (walked11_is p4 a1 n4 len1 c4 cap1 y4 zs (some (k0 : Int)) _ Y4.out S4.out (by rw [T4.out]; exact HWK.out)).mono ?_
      rintro e v5 ⟨rfl, hq5⟩
      have B5 := B4.trans (hq5.mono B4.size)
      have X5 := Lib.hid (X4.out.below hq5 (Nat.le_refl _))
      have S5 := Lib.hid (S4.out.below hq5 (Nat.le_refl _))
      have Y4 := Lib.hid (Y4.out.below hq5 (Nat.le_refl _))
      have h0n : decide (0 < n4) = true := decide_eq_true HPOS.out
      simp only [walkV11, h0n]
      obtain ⟨b0, hb0⟩ : ∃ b, ((len1 : Int) == 0) = b := ⟨_, rfl⟩
      have HB0 := Lib.hid hb0
      clear hq5 h0n
      go_wp2
      go_loopw [12, 13, 14] (fun bv ev ix wr => ∃ (i : Nat) (bg en : Bool), i ≤ len0 ∧ bv = .bool bg ∧ ev = .bool en ∧ ix = .int .i64 (i : Int) ∧ Hid (Bg (nums x0) i zs bg) ∧ Hid (En (nums x0) i zs en) ∧ Hid (Below v5.heap.size v5 wr)) (fun _ _ ix _ => len0 - (intOf ix).toNat)
      case atStart =>
        refine ⟨0, b0, false, Nat.zero_le _, by first | rfl | (rw [hb0]), rfl, rfl, ?_, ?_, Below.refl _ _⟩
        · show b0 = true ↔ _
          rw [← HB0.out]
          simp only [List.take_zero, List.not_mem_nil, false_and, exists_false, or_false, beq_iff_eq]
          rw [← HZL.out]
          constructor
          · intro h; exact List.eq_nil_of_length_eq_zero (by omega)
          · intro h; subst h; rfl
        · show false = true ↔ _
          simp
      case round =>
        obtain ⟨i, bg, en, hi, rfl, rfl, rfl, HBG, HEN, HQ⟩ := hrel
        by_cases hlt : i < len0
        · obtain ⟨b1, o1, za, zn, zc, z, rfl, hb1, hgd, hcl, hsl, hz⟩ := X5.out.one i hlt
          have hclw : wr.cell? ⟨b1, o1 + i, none⟩ = some (.slice za zn zc) := by rw [HQ.out.cell (p := ⟨b1, o1 + i, none⟩) hb1]; exact hcl
          have HSL := Lib.hid hsl
          have HSN := Lib.hid hsl.1
          have HZI := Lib.hid hz
          have hlti : (i : Int) < (len0 : Int) := by omega
          have hzm : z ∈ nums x0 := by rw [← hz, List.getD_eq_getElem?_getD, List.getElem?_eq_getElem (by rw [HLX.out]; exact hlt), Option.getD_some]; exact List.getElem_mem _
          have HZW : Hid (decide (z ∈ nums x0) = true) := decide_eq_true hzm
          obtain ⟨kz, hkz⟩ : ∃ k, cls (nums x0) z = k := ⟨_, rfl⟩
          have hzb := word_begs HSH.out hzm
          have HKZ : Hid (z ∈ begs (nums x0) ∧ cls (nums x0) z = kz) := ⟨hzb, hkz⟩
          have HWZ : Hid (Tri.walk (dmake (nums x0)) 0 z = some (kz : Int)) := by have h := (dwalk HSH.out HRI.out z).1 hzb; rw [hkz] at h; exact h
          obtain ⟨c, hc⟩ : ∃ c, common z zs = c := ⟨_, rfl⟩
          have HC := Lib.hid hc
          clear hgd hcl hsl hz hc hb1 hzm hkz hzb
          go_wp2_with fail
          refine (common_is za a1 zn len1 zc cap1 z zs c _ (HSL.out.below HQ.out (Nat.le_refl _)) (S5.out.below HQ.out (Nat.le_refl _)) HC.out).mono ?_
          rintro e w3 ⟨rfl, hq3⟩
          have hclw3 : w3.cell? ⟨b1, o1 + i, none⟩ = some (.slice za zn zc) := by obtain ⟨q, rfl⟩ := hq3; exact hclw
          have HQ3 : Hid (Below v5.heap.size v5 w3) := below_drawn HQ.out hq3
          have HQX := HQ3
          clear hq3 hclw
          cases bg
          · cases en
            · by_cases hcm : c = len1
              · have dcm : ((c : Int) == (len1 : Int)) = true := by simp; omega
                have HCM : Hid (decide (c = len1) = true) := decide_eq_true hcm
                by_cases hcz : c = zn
                · have dcz : ((c : Int) == (zn : Int)) = true := by simp; omega
                  have HCZ : Hid (decide (c = zn) = true) := decide_eq_true hcz
                  clear hcm hcz
                  have HBG2 : Hid (Bg (nums x0) (i + 1) zs true) := by
                    have h := HBG.out.next (by rw [HLX.out]; exact hlt) HZI.out
                    rw [HC.out, HZL.out] at h
                    rw [HCM.out] at h; exact h
                  have HEN2 : Hid (En (nums x0) (i + 1) zs true) := by
                    have h := HEN.out.next (by rw [HLX.out]; exact hlt) HZI.out
                    rw [HC.out, HZL.out, HSN.out] at h
                    rw [HCM.out, HCZ.out] at h; exact h
                  go_wp2_with fail
                  refine (walked11_is p4 za n4 zn c4 zc y4 z (some (kz : Int)) _ (Y4.out.below HQ3.out (Nat.le_refl _)) (HSL.out.below HQX.out (Nat.le_refl _)) (by rw [T4.out]; exact HWZ.out)).mono ?_
                  rintro e w5 ⟨rfl, hq5⟩
                  have HQ5 : Hid (Below v5.heap.size v5 w5) := HQ3.out.trans (hq5.mono HQ3.out.size)
                  obtain ⟨bf, of, hbf, hkn, hcf⟩ := final_cell (Y4.out.below HQ5.out (Nat.le_refl _)) T4.out HKZ.out.1 HKZ.out.2
                  rw [HZW.out] at hcf
                  have hk0 : decide ((kz : Int) < 0) = false := decide_eq_false (by omega)
                  have hk1 : decide ((kz : Int) ≥ (n4 : Int)) = false := decide_eq_false (by omega)
                  have hk2 : (kz : Int) < (n4 : Int) := by omega
                  have h0n : decide (0 < n4) = true := decide_eq_true (by omega)
                  subst hbf
                  simp only [walkV11, h0n]
                  clear hq5 hkn
                  go_wp2
                  all_goals (try omega)
                  go_roundw
                  case rel => exact ⟨i + 1, true, true, by omega, rfl, rfl, by go_num, HBG2.out, HEN2.out, HQ5.out⟩
                  case measure => simp [intOf]; omega
                · have dcz : ((c : Int) == (zn : Int)) = false := by simp; omega
                  have HCZ : Hid (decide (c = zn) = false) := decide_eq_false hcz
                  clear hcm hcz
                  have HBG2 : Hid (Bg (nums x0) (i + 1) zs true) := by
                    have h := HBG.out.next (by rw [HLX.out]; exact hlt) HZI.out
                    rw [HC.out, HZL.out] at h
                    rw [HCM.out] at h; exact h
                  have HEN2 : Hid (En (nums x0) (i + 1) zs false) := by
                    have h := HEN.out.next (by rw [HLX.out]; exact hlt) HZI.out
                    rw [HC.out, HZL.out, HSN.out] at h
                    rw [HCM.out, HCZ.out] at h; exact h
                  go_wp2_with fail
                  refine (walked11_is p4 za n4 zn c4 zc y4 z (some (kz : Int)) _ (Y4.out.below HQ3.out (Nat.le_refl _)) (HSL.out.below HQX.out (Nat.le_refl _)) (by rw [T4.out]; exact HWZ.out)).mono ?_
                  rintro e w5 ⟨rfl, hq5⟩
                  have HQ5 : Hid (Below v5.heap.size v5 w5) := HQ3.out.trans (hq5.mono HQ3.out.size)
                  obtain ⟨bf, of, hbf, hkn, hcf⟩ := final_cell (Y4.out.below HQ5.out (Nat.le_refl _)) T4.out HKZ.out.1 HKZ.out.2
                  rw [HZW.out] at hcf
                  have hk0 : decide ((kz : Int) < 0) = false := decide_eq_false (by omega)
                  have hk1 : decide ((kz : Int) ≥ (n4 : Int)) = false := decide_eq_false (by omega)
                  have hk2 : (kz : Int) < (n4 : Int) := by omega
                  have h0n : decide (0 < n4) = true := decide_eq_true (by omega)
                  subst hbf
                  simp only [walkV11, h0n]
                  clear hq5 hkn
                  go_wp2
                  all_goals (try omega)
                  go_roundw
                  case rel => exact ⟨i + 1, true, false, by omega, rfl, rfl, by go_num, HBG2.out, HEN2.out, HQ5.out⟩
                  case measure => simp [intOf]; omega
              · have dcm : ((c : Int) == (len1 : Int)) = false := by simp; omega
                have HCM : Hid (decide (c = len1) = false) := decide_eq_false hcm
                clear hcm
                have HBG2 : Hid (Bg (nums x0) (i + 1) zs false) := by
                  have h := HBG.out.next (by rw [HLX.out]; exact hlt) HZI.out
                  rw [HC.out, HZL.out] at h
                  rw [HCM.out] at h; exact h
                have HEN2 : Hid (En (nums x0) (i + 1) zs false) := by
                  have h := HEN.out.next (by rw [HLX.out]; exact hlt) HZI.out
                  rw [HC.out, HZL.out, HSN.out] at h
                  rw [HCM.out] at h; exact h
                go_wp2_with fail
                refine (walked11_is p4 za n4 zn c4 zc y4 z (some (kz : Int)) _ (Y4.out.below HQ3.out (Nat.le_refl _)) (HSL.out.below HQX.out (Nat.le_refl _)) (by rw [T4.out]; exact HWZ.out)).mono ?_
                rintro e w5 ⟨rfl, hq5⟩
                have HQ5 : Hid (Below v5.heap.size v5 w5) := HQ3.out.trans (hq5.mono HQ3.out.size)
                obtain ⟨bf, of, hbf, hkn, hcf⟩ := final_cell (Y4.out.below HQ5.out (Nat.le_refl _)) T4.out HKZ.out.1 HKZ.out.2
                rw [HZW.out] at hcf
                have hk0 : decide ((kz : Int) < 0) = false := decide_eq_false (by omega)
                have hk1 : decide ((kz : Int) ≥ (n4 : Int)) = false := decide_eq_false (by omega)
                have hk2 : (kz : Int) < (n4 : Int) := by omega
                have h0n : decide (0 < n4) = true := decide_eq_true (by omega)
                subst hbf
                simp only [walkV11, h0n]
                clear hq5 hkn
                go_wp2
                all_goals (try omega)
                go_roundw
                case rel => exact ⟨i + 1, false, false, by omega, rfl, rfl, by go_num, HBG2.out, HEN2.out, HQ5.out⟩
                case measure => simp [intOf]; omega
            · by_cases hcm : c = len1
              · have dcm : ((c : Int) == (len1 : Int)) = true := by simp; omega
                have HCM : Hid (decide (c = len1) = true) := decide_eq_true hcm
                clear hcm
                have HBG2 : Hid (Bg (nums x0) (i + 1) zs true) := by
                  have h := HBG.out.next (by rw [HLX.out]; exact hlt) HZI.out
                  rw [HC.out, HZL.out] at h
                  rw [HCM.out] at h; exact h
                have HEN2 : Hid (En (nums x0) (i + 1) zs true) := by
                  have h := HEN.out.next (by rw [HLX.out]; exact hlt) HZI.out
                  rw [HC.out, HZL.out, HSN.out] at h
                  exact h
                go_wp2_with fail
                refine (walked11_is p4 za n4 zn c4 zc y4 z (some (kz : Int)) _ (Y4.out.below HQ3.out (Nat.le_refl _)) (HSL.out.below HQX.out (Nat.le_refl _)) (by rw [T4.out]; exact HWZ.out)).mono ?_
                rintro e w5 ⟨rfl, hq5⟩
                have HQ5 : Hid (Below v5.heap.size v5 w5) := HQ3.out.trans (hq5.mono HQ3.out.size)
                obtain ⟨bf, of, hbf, hkn, hcf⟩ := final_cell (Y4.out.below HQ5.out (Nat.le_refl _)) T4.out HKZ.out.1 HKZ.out.2
                rw [HZW.out] at hcf
                have hk0 : decide ((kz : Int) < 0) = false := decide_eq_false (by omega)
                have hk1 : decide ((kz : Int) ≥ (n4 : Int)) = false := decide_eq_false (by omega)
                have hk2 : (kz : Int) < (n4 : Int) := by omega
                have h0n : decide (0 < n4) = true := decide_eq_true (by omega)
                subst hbf
                simp only [walkV11, h0n]
                clear hq5 hkn
                go_wp2
                all_goals (try omega)
                go_roundw
                case rel => exact ⟨i + 1, true, true, by omega, rfl, rfl, by go_num, HBG2.out, HEN2.out, HQ5.out⟩
                case measure => simp [intOf]; omega
              · have dcm : ((c : Int) == (len1 : Int)) = false := by simp; omega
                have HCM : Hid (decide (c = len1) = false) := decide_eq_false hcm
                clear hcm
                have HBG2 : Hid (Bg (nums x0) (i + 1) zs false) := by
                  have h := HBG.out.next (by rw [HLX.out]; exact hlt) HZI.out
                  rw [HC.out, HZL.out] at h
                  rw [HCM.out] at h; exact h
                have HEN2 : Hid (En (nums x0) (i + 1) zs true) := by
                  have h := HEN.out.next (by rw [HLX.out]; exact hlt) HZI.out
                  rw [HC.out, HZL.out, HSN.out] at h
                  exact h
                go_wp2_with fail
                refine (walked11_is p4 za n4 zn c4 zc y4 z (some (kz : Int)) _ (Y4.out.below HQ3.out (Nat.le_refl _)) (HSL.out.below HQX.out (Nat.le_refl _)) (by rw [T4.out]; exact HWZ.out)).mono ?_
                rintro e w5 ⟨rfl, hq5⟩
                have HQ5 : Hid (Below v5.heap.size v5 w5) := HQ3.out.trans (hq5.mono HQ3.out.size)
                obtain ⟨bf, of, hbf, hkn, hcf⟩ := final_cell (Y4.out.below HQ5.out (Nat.le_refl _)) T4.out HKZ.out.1 HKZ.out.2
                rw [HZW.out] at hcf
                have hk0 : decide ((kz : Int) < 0) = false := decide_eq_false (by omega)
                have hk1 : decide ((kz : Int) ≥ (n4 : Int)) = false := decide_eq_false (by omega)
                have hk2 : (kz : Int) < (n4 : Int) := by omega
                have h0n : decide (0 < n4) = true := decide_eq_true (by omega)
                subst hbf
                simp only [walkV11, h0n]
                clear hq5 hkn
                go_wp2
                all_goals (try omega)
                go_roundw
                case rel => exact ⟨i + 1, false, true, by omega, rfl, rfl, by go_num, HBG2.out, HEN2.out, HQ5.out⟩
                case measure => simp [intOf]; omega
          · cases en
            · by_cases hcm : c = len1
              · have dcm : ((c : Int) == (len1 : Int)) = true := by simp; omega
                have HCM : Hid (decide (c = len1) = true) := decide_eq_true hcm
                by_cases hcz : c = zn
                · have dcz : ((c : Int) == (zn : Int)) = true := by simp; omega
                  have HCZ : Hid (decide (c = zn) = true) := decide_eq_true hcz
                  clear hcm hcz
                  have HBG2 : Hid (Bg (nums x0) (i + 1) zs true) := by
                    have h := HBG.out.next (by rw [HLX.out]; exact hlt) HZI.out
                    rw [HC.out, HZL.out] at h
                    exact h
                  have HEN2 : Hid (En (nums x0) (i + 1) zs true) := by
                    have h := HEN.out.next (by rw [HLX.out]; exact hlt) HZI.out
                    rw [HC.out, HZL.out, HSN.out] at h
                    rw [HCM.out, HCZ.out] at h; exact h
                  go_wp2_with fail
                  refine (walked11_is p4 za n4 zn c4 zc y4 z (some (kz : Int)) _ (Y4.out.below HQ3.out (Nat.le_refl _)) (HSL.out.below HQX.out (Nat.le_refl _)) (by rw [T4.out]; exact HWZ.out)).mono ?_
                  rintro e w5 ⟨rfl, hq5⟩
                  have HQ5 : Hid (Below v5.heap.size v5 w5) := HQ3.out.trans (hq5.mono HQ3.out.size)
                  obtain ⟨bf, of, hbf, hkn, hcf⟩ := final_cell (Y4.out.below HQ5.out (Nat.le_refl _)) T4.out HKZ.out.1 HKZ.out.2
                  rw [HZW.out] at hcf
                  have hk0 : decide ((kz : Int) < 0) = false := decide_eq_false (by omega)
                  have hk1 : decide ((kz : Int) ≥ (n4 : Int)) = false := decide_eq_false (by omega)
                  have hk2 : (kz : Int) < (n4 : Int) := by omega
                  have h0n : decide (0 < n4) = true := decide_eq_true (by omega)
                  subst hbf
                  simp only [walkV11, h0n]
                  clear hq5 hkn
                  go_wp2
                  all_goals (try omega)
                  go_roundw
                  case rel => exact ⟨i + 1, true, true, by omega, rfl, rfl, by go_num, HBG2.out, HEN2.out, HQ5.out⟩
                  case measure => simp [intOf]; omega
                · have dcz : ((c : Int) == (zn : Int)) = false := by simp; omega
                  have HCZ : Hid (decide (c = zn) = false) := decide_eq_false hcz
                  clear hcm hcz
                  have HBG2 : Hid (Bg (nums x0) (i + 1) zs true) := by
                    have h := HBG.out.next (by rw [HLX.out]; exact hlt) HZI.out
                    rw [HC.out, HZL.out] at h
                    exact h
                  have HEN2 : Hid (En (nums x0) (i + 1) zs false) := by
                    have h := HEN.out.next (by rw [HLX.out]; exact hlt) HZI.out
                    rw [HC.out, HZL.out, HSN.out] at h
                    rw [HCM.out, HCZ.out] at h; exact h
                  go_wp2_with fail
                  refine (walked11_is p4 za n4 zn c4 zc y4 z (some (kz : Int)) _ (Y4.out.below HQ3.out (Nat.le_refl _)) (HSL.out.below HQX.out (Nat.le_refl _)) (by rw [T4.out]; exact HWZ.out)).mono ?_
                  rintro e w5 ⟨rfl, hq5⟩
                  have HQ5 : Hid (Below v5.heap.size v5 w5) := HQ3.out.trans (hq5.mono HQ3.out.size)
                  obtain ⟨bf, of, hbf, hkn, hcf⟩ := final_cell (Y4.out.below HQ5.out (Nat.le_refl _)) T4.out HKZ.out.1 HKZ.out.2
                  rw [HZW.out] at hcf
                  have hk0 : decide ((kz : Int) < 0) = false := decide_eq_false (by omega)
                  have hk1 : decide ((kz : Int) ≥ (n4 : Int)) = false := decide_eq_false (by omega)
                  have hk2 : (kz : Int) < (n4 : Int) := by omega
                  have h0n : decide (0 < n4) = true := decide_eq_true (by omega)
                  subst hbf
                  simp only [walkV11, h0n]
                  clear hq5 hkn
                  go_wp2
                  all_goals (try omega)
                  go_roundw
                  case rel => exact ⟨i + 1, true, false, by omega, rfl, rfl, by go_num, HBG2.out, HEN2.out, HQ5.out⟩
                  case measure => simp [intOf]; omega
              · have dcm : ((c : Int) == (len1 : Int)) = false := by simp; omega
                have HCM : Hid (decide (c = len1) = false) := decide_eq_false hcm
                clear hcm
                have HBG2 : Hid (Bg (nums x0) (i + 1) zs true) := by
                  have h := HBG.out.next (by rw [HLX.out]; exact hlt) HZI.out
                  rw [HC.out, HZL.out] at h
                  exact h
                have HEN2 : Hid (En (nums x0) (i + 1) zs false) := by
                  have h := HEN.out.next (by rw [HLX.out]; exact hlt) HZI.out
                  rw [HC.out, HZL.out, HSN.out] at h
                  rw [HCM.out] at h; exact h
                go_wp2_with fail
                refine (walked11_is p4 za n4 zn c4 zc y4 z (some (kz : Int)) _ (Y4.out.below HQ3.out (Nat.le_refl _)) (HSL.out.below HQX.out (Nat.le_refl _)) (by rw [T4.out]; exact HWZ.out)).mono ?_
                rintro e w5 ⟨rfl, hq5⟩
                have HQ5 : Hid (Below v5.heap.size v5 w5) := HQ3.out.trans (hq5.mono HQ3.out.size)
                obtain ⟨bf, of, hbf, hkn, hcf⟩ := final_cell (Y4.out.below HQ5.out (Nat.le_refl _)) T4.out HKZ.out.1 HKZ.out.2
                rw [HZW.out] at hcf
                have hk0 : decide ((kz : Int) < 0) = false := decide_eq_false (by omega)
                have hk1 : decide ((kz : Int) ≥ (n4 : Int)) = false := decide_eq_false (by omega)
                have hk2 : (kz : Int) < (n4 : Int) := by omega
                have h0n : decide (0 < n4) = true := decide_eq_true (by omega)
                subst hbf
                simp only [walkV11, h0n]
                clear hq5 hkn
                go_wp2
                all_goals (try omega)
                go_roundw
                case rel => exact ⟨i + 1, true, false, by omega, rfl, rfl, by go_num, HBG2.out, HEN2.out, HQ5.out⟩
                case measure => simp [intOf]; omega
            · have HBG2 : Hid (Bg (nums x0) (i + 1) zs true) := by
                have h := HBG.out.next (by rw [HLX.out]; exact hlt) HZI.out
                rw [HC.out, HZL.out] at h
                exact h
              have HEN2 : Hid (En (nums x0) (i + 1) zs true) := by
                have h := HEN.out.next (by rw [HLX.out]; exact hlt) HZI.out
                rw [HC.out, HZL.out, HSN.out] at h
                exact h
              go_wp2_with fail
              refine (walked11_is p4 za n4 zn c4 zc y4 z (some (kz : Int)) _ (Y4.out.below HQ3.out (Nat.le_refl _)) (HSL.out.below HQX.out (Nat.le_refl _)) (by rw [T4.out]; exact HWZ.out)).mono ?_
              rintro e w5 ⟨rfl, hq5⟩
              have HQ5 : Hid (Below v5.heap.size v5 w5) := HQ3.out.trans (hq5.mono HQ3.out.size)
              obtain ⟨bf, of, hbf, hkn, hcf⟩ := final_cell (Y4.out.below HQ5.out (Nat.le_refl _)) T4.out HKZ.out.1 HKZ.out.2
              rw [HZW.out] at hcf
              have hk0 : decide ((kz : Int) < 0) = false := decide_eq_false (by omega)
              have hk1 : decide ((kz : Int) ≥ (n4 : Int)) = false := decide_eq_false (by omega)
              have hk2 : (kz : Int) < (n4 : Int) := by omega
              have h0n : decide (0 < n4) = true := decide_eq_true (by omega)
              subst hbf
              simp only [walkV11, h0n]
              clear hq5 hkn
              go_wp2
              all_goals (try omega)
              go_roundw
              case rel => exact ⟨i + 1, true, true, by omega, rfl, rfl, by go_num, HBG2.out, HEN2.out, HQ5.out⟩
              case measure => simp [intOf]; omega
        · obtain rfl : len0 = i := by omega
          have hbg : bg = true := by
            have h := HBG.out
            rw [← HLX.out] at h
            rw [h.all HSH.out]; exact HMEM.out
          have hen : en = decide (zs ∈ nums x0) := by
            have h := HEN.out
            rw [← HLX.out] at h
            exact h.all
          subst hbg
          have B6 := B5.trans (HQ.out.mono B5.size)
          have HEQ := Lib.hid hen
          clear hen
          go_wp2_with fail
          refine (tcheck_is p4 n4 c4 y4 true _ (Y4.out.below HQ.out (Nat.le_refl _)) (by rw [T4.out]; exact HCHK.out)).mono ?_
          rintro e v7 ⟨rfl, hb7⟩
          have B7' := B6.trans (hb7.mono B6.size)
          have Y7' := Lib.hid ((Y4.out.below HQ.out (Nat.le_refl _)).below hb7 (Nat.le_refl _))
          clear hb7
          go_wp2_with fail
          refine (dleast_is p4 n4 c4 y4 true _ Y7'.out (by rw [T4.out]; exact HLST.out)).mono ?_
          rintro e v8 ⟨rfl, hb8⟩
          have B7 := B7'.trans (hb8.mono B7'.size)
          have Y7 := Lib.hid (Y7'.out.below hb8 (Nat.le_refl _))
          have hle := HLE.out
          clear hb8
          obtain ⟨bf, of, hbf, hkn, hcf⟩ := final_cell Y7.out T4.out HK0.out.1 HK0.out.2
          rw [← HEQ.out] at hcf
          have hk2 : (k0 : Int) < (n4 : Int) := by omega
          have hee : (en == en) = true := by simp
          subst hbf
          clear hkn
          go_wp2
          go_ret
          exact ⟨by first | rfl | simp, B7⟩
    · have HWK : Hid (Tri.walk (dmake (nums x0)) 0 zs = none) := (dwalk HSH.out HRI.out zs).2 hmem
      have HMEM : Hid (decide (zs ∈ begs (nums x0)) = false) := decide_eq_false hmem
      clear hmem
      go_wp2_with fail
      refine (walked11_is p4 a1 n4 len1 c4 cap1 y4 zs none _ Y4.out S4.out (by rw [T4.out]; exact HWK.out)).mono ?_
      rintro e v5 ⟨rfl, hq5⟩
      have B5 := B4.trans (hq5.mono B4.size)
      have X5 := Lib.hid (X4.out.below hq5 (Nat.le_refl _))
      have S5 := Lib.hid (S4.out.below hq5 (Nat.le_refl _))
      have Y4 := Lib.hid (Y4.out.below hq5 (Nat.le_refl _))
      have h0n : decide (0 < n4) = true := decide_eq_true HPOS.out
      simp only [walkV11]
      obtain ⟨b0, hb0⟩ : ∃ b, ((len1 : Int) == 0) = b := ⟨_, rfl⟩
      have HB0 := Lib.hid hb0
      clear hq5 h0n
      go_wp2
      go_loopw [12, 13, 14] (fun bv ev ix wr => ∃ (i : Nat) (bg en : Bool), i ≤ len0 ∧ bv = .bool bg ∧ ev = .bool en ∧ ix = .int .i64 (i : Int) ∧ Hid (Bg (nums x0) i zs bg) ∧ Hid (En (nums x0) i zs en) ∧ Hid (Below v5.heap.size v5 wr)) (fun _ _ ix _ => len0 - (intOf ix).toNat)
      case atStart =>
        refine ⟨0, b0, false, Nat.zero_le _, by first | rfl | (rw [hb0]), rfl, rfl, ?_, ?_, Below.refl _ _⟩
        · show b0 = true ↔ _
          rw [← HB0.out]
          simp only [List.take_zero, List.not_mem_nil, false_and, exists_false, or_false, beq_iff_eq]
          rw [← HZL.out]
          constructor
          · intro h; exact List.eq_nil_of_length_eq_zero (by omega)
          · intro h; subst h; rfl
        · show false = true ↔ _
          simp
      case round =>
        obtain ⟨i, bg, en, hi, rfl, rfl, rfl, HBG, HEN, HQ⟩ := hrel
        by_cases hlt : i < len0
        · obtain ⟨b1, o1, za, zn, zc, z, rfl, hb1, hgd, hcl, hsl, hz⟩ := X5.out.one i hlt
          have hclw : wr.cell? ⟨b1, o1 + i, none⟩ = some (.slice za zn zc) := by rw [HQ.out.cell (p := ⟨b1, o1 + i, none⟩) hb1]; exact hcl
          have HSL := Lib.hid hsl
          have HSN := Lib.hid hsl.1
          have HZI := Lib.hid hz
          have hlti : (i : Int) < (len0 : Int) := by omega
          have hzm : z ∈ nums x0 := by rw [← hz, List.getD_eq_getElem?_getD, List.getElem?_eq_getElem (by rw [HLX.out]; exact hlt), Option.getD_some]; exact List.getElem_mem _
          have HZW : Hid (decide (z ∈ nums x0) = true) := decide_eq_true hzm
          obtain ⟨kz, hkz⟩ : ∃ k, cls (nums x0) z = k := ⟨_, rfl⟩
          have hzb := word_begs HSH.out hzm
          have HKZ : Hid (z ∈ begs (nums x0) ∧ cls (nums x0) z = kz) := ⟨hzb, hkz⟩
          have HWZ : Hid (Tri.walk (dmake (nums x0)) 0 z = some (kz : Int)) := by have h := (dwalk HSH.out HRI.out z).1 hzb; rw [hkz] at h; exact h
          obtain ⟨c, hc⟩ : ∃ c, common z zs = c := ⟨_, rfl⟩
          have HC := Lib.hid hc
          clear hgd hcl hsl hz hc hb1 hzm hkz hzb
          go_wp2_with fail
          refine (common_is za a1 zn len1 zc cap1 z zs c _ (HSL.out.below HQ.out (Nat.le_refl _)) (S5.out.below HQ.out (Nat.le_refl _)) HC.out).mono ?_
          rintro e w3 ⟨rfl, hq3⟩
          have hclw3 : w3.cell? ⟨b1, o1 + i, none⟩ = some (.slice za zn zc) := by obtain ⟨q, rfl⟩ := hq3; exact hclw
          have HQ3 : Hid (Below v5.heap.size v5 w3) := below_drawn HQ.out hq3
          have HQX := HQ3
          clear hq3 hclw
          cases bg
          · cases en
            · by_cases hcm : c = len1
              · have dcm : ((c : Int) == (len1 : Int)) = true := by simp; omega
                have HCM : Hid (decide (c = len1) = true) := decide_eq_true hcm
                by_cases hcz : c = zn
                · have dcz : ((c : Int) == (zn : Int)) = true := by simp; omega
                  have HCZ : Hid (decide (c = zn) = true) := decide_eq_true hcz
                  clear hcm hcz
                  have HBG2 : Hid (Bg (nums x0) (i + 1) zs true) := by
                    have h := HBG.out.next (by rw [HLX.out]; exact hlt) HZI.out
                    rw [HC.out, HZL.out] at h
                    rw [HCM.out] at h; exact h
                  have HEN2 : Hid (En (nums x0) (i + 1) zs true) := by
                    have h := HEN.out.next (by rw [HLX.out]; exact hlt) HZI.out
                    rw [HC.out, HZL.out, HSN.out] at h
                    rw [HCM.out, HCZ.out] at h; exact h
                  go_wp2_with fail
                  refine (walked11_is p4 za n4 zn c4 zc y4 z (some (kz : Int)) _ (Y4.out.below HQ3.out (Nat.le_refl _)) (HSL.out.below HQX.out (Nat.le_refl _)) (by rw [T4.out]; exact HWZ.out)).mono ?_
                  rintro e w5 ⟨rfl, hq5⟩
                  have HQ5 : Hid (Below v5.heap.size v5 w5) := HQ3.out.trans (hq5.mono HQ3.out.size)
                  obtain ⟨bf, of, hbf, hkn, hcf⟩ := final_cell (Y4.out.below HQ5.out (Nat.le_refl _)) T4.out HKZ.out.1 HKZ.out.2
                  rw [HZW.out] at hcf
                  have hk0 : decide ((kz : Int) < 0) = false := decide_eq_false (by omega)
                  have hk1 : decide ((kz : Int) ≥ (n4 : Int)) = false := decide_eq_false (by omega)
                  have hk2 : (kz : Int) < (n4 : Int) := by omega
                  have h0n : decide (0 < n4) = true := decide_eq_true (by omega)
                  subst hbf
                  simp only [walkV11, h0n]
                  clear hq5 hkn
                  go_wp2
                  all_goals (try omega)
                  go_roundw
                  case rel => exact ⟨i + 1, true, true, by omega, rfl, rfl, by go_num, HBG2.out, HEN2.out, HQ5.out⟩
                  case measure => simp [intOf]; omega
                · have dcz : ((c : Int) == (zn : Int)) = false := by simp; omega
                  have HCZ : Hid (decide (c = zn) = false) := decide_eq_false hcz
                  clear hcm hcz
                  have HBG2 : Hid (Bg (nums x0) (i + 1) zs true) := by
                    have h := HBG.out.next (by rw [HLX.out]; exact hlt) HZI.out
                    rw [HC.out, HZL.out] at h
                    rw [HCM.out] at h; exact h
                  have HEN2 : Hid (En (nums x0) (i + 1) zs false) := by
                    have h := HEN.out.next (by rw [HLX.out]; exact hlt) HZI.out
                    rw [HC.out, HZL.out, HSN.out] at h
                    rw [HCM.out, HCZ.out] at h; exact h
                  go_wp2_with fail
                  refine (walked11_is p4 za n4 zn c4 zc y4 z (some (kz : Int)) _ (Y4.out.below HQ3.out (Nat.le_refl _)) (HSL.out.below HQX.out (Nat.le_refl _)) (by rw [T4.out]; exact HWZ.out)).mono ?_
                  rintro e w5 ⟨rfl, hq5⟩
                  have HQ5 : Hid (Below v5.heap.size v5 w5) := HQ3.out.trans (hq5.mono HQ3.out.size)
                  obtain ⟨bf, of, hbf, hkn, hcf⟩ := final_cell (Y4.out.below HQ5.out (Nat.le_refl _)) T4.out HKZ.out.1 HKZ.out.2
                  rw [HZW.out] at hcf
                  have hk0 : decide ((kz : Int) < 0) = false := decide_eq_false (by omega)
                  have hk1 : decide ((kz : Int) ≥ (n4 : Int)) = false := decide_eq_false (by omega)
                  have hk2 : (kz : Int) < (n4 : Int) := by omega
                  have h0n : decide (0 < n4) = true := decide_eq_true (by omega)
                  subst hbf
                  simp only [walkV11, h0n]
                  clear hq5 hkn
                  go_wp2
                  all_goals (try omega)
                  go_roundw
                  case rel => exact ⟨i + 1, true, false, by omega, rfl, rfl, by go_num, HBG2.out, HEN2.out, HQ5.out⟩
                  case measure => simp [intOf]; omega
              · have dcm : ((c : Int) == (len1 : Int)) = false := by simp; omega
                have HCM : Hid (decide (c = len1) = false) := decide_eq_false hcm
                clear hcm
                have HBG2 : Hid (Bg (nums x0) (i + 1) zs false) := by
                  have h := HBG.out.next (by rw [HLX.out]; exact hlt) HZI.out
                  rw [HC.out, HZL.out] at h
                  rw [HCM.out] at h; exact h
                have HEN2 : Hid (En (nums x0) (i + 1) zs false) := by
                  have h := HEN.out.next (by rw [HLX.out]; exact hlt) HZI.out
                  rw [HC.out, HZL.out, HSN.out] at h
                  rw [HCM.out] at h; exact h
                go_wp2_with fail
                refine (walked11_is p4 za n4 zn c4 zc y4 z (some (kz : Int)) _ (Y4.out.below HQ3.out (Nat.le_refl _)) (HSL.out.below HQX.out (Nat.le_refl _)) (by rw [T4.out]; exact HWZ.out)).mono ?_
                rintro e w5 ⟨rfl, hq5⟩
                have HQ5 : Hid (Below v5.heap.size v5 w5) := HQ3.out.trans (hq5.mono HQ3.out.size)
                obtain ⟨bf, of, hbf, hkn, hcf⟩ := final_cell (Y4.out.below HQ5.out (Nat.le_refl _)) T4.out HKZ.out.1 HKZ.out.2
                rw [HZW.out] at hcf
                have hk0 : decide ((kz : Int) < 0) = false := decide_eq_false (by omega)
                have hk1 : decide ((kz : Int) ≥ (n4 : Int)) = false := decide_eq_false (by omega)
                have hk2 : (kz : Int) < (n4 : Int) := by omega
                have h0n : decide (0 < n4) = true := decide_eq_true (by omega)
                subst hbf
                simp only [walkV11, h0n]
                clear hq5 hkn
                go_wp2
                all_goals (try omega)
                go_roundw
                case rel => exact ⟨i + 1, false, false, by omega, rfl, rfl, by go_num, HBG2.out, HEN2.out, HQ5.out⟩
                case measure => simp [intOf]; omega
            · by_cases hcm : c = len1
              · have dcm : ((c : Int) == (len1 : Int)) = true := by simp; omega
                have HCM : Hid (decide (c = len1) = true) := decide_eq_true hcm
                clear hcm
                have HBG2 : Hid (Bg (nums x0) (i + 1) zs true) := by
                  have h := HBG.out.next (by rw [HLX.out]; exact hlt) HZI.out
                  rw [HC.out, HZL.out] at h
                  rw [HCM.out] at h; exact h
                have HEN2 : Hid (En (nums x0) (i + 1) zs true) := by
                  have h := HEN.out.next (by rw [HLX.out]; exact hlt) HZI.out
                  rw [HC.out, HZL.out, HSN.out] at h
                  exact h
                go_wp2_with fail
                refine (walked11_is p4 za n4 zn c4 zc y4 z (some (kz : Int)) _ (Y4.out.below HQ3.out (Nat.le_refl _)) (HSL.out.below HQX.out (Nat.le_refl _)) (by rw [T4.out]; exact HWZ.out)).mono ?_
                rintro e w5 ⟨rfl, hq5⟩
                have HQ5 : Hid (Below v5.heap.size v5 w5) := HQ3.out.trans (hq5.mono HQ3.out.size)
                obtain ⟨bf, of, hbf, hkn, hcf⟩ := final_cell (Y4.out.below HQ5.out (Nat.le_refl _)) T4.out HKZ.out.1 HKZ.out.2
                rw [HZW.out] at hcf
                have hk0 : decide ((kz : Int) < 0) = false := decide_eq_false (by omega)
                have hk1 : decide ((kz : Int) ≥ (n4 : Int)) = false := decide_eq_false (by omega)
                have hk2 : (kz : Int) < (n4 : Int) := by omega
                have h0n : decide (0 < n4) = true := decide_eq_true (by omega)
                subst hbf
                simp only [walkV11, h0n]
                clear hq5 hkn
                go_wp2
                all_goals (try omega)
                go_roundw
                case rel => exact ⟨i + 1, true, true, by omega, rfl, rfl, by go_num, HBG2.out, HEN2.out, HQ5.out⟩
                case measure => simp [intOf]; omega
              · have dcm : ((c : Int) == (len1 : Int)) = false := by simp; omega
                have HCM : Hid (decide (c = len1) = false) := decide_eq_false hcm
                clear hcm
                have HBG2 : Hid (Bg (nums x0) (i + 1) zs false) := by
                  have h := HBG.out.next (by rw [HLX.out]; exact hlt) HZI.out
                  rw [HC.out, HZL.out] at h
                  rw [HCM.out] at h; exact h
                have HEN2 : Hid (En (nums x0) (i + 1) zs true) := by
                  have h := HEN.out.next (by rw [HLX.out]; exact hlt) HZI.out
                  rw [HC.out, HZL.out, HSN.out] at h
                  exact h
                go_wp2_with fail
                refine (walked11_is p4 za n4 zn c4 zc y4 z (some (kz : Int)) _ (Y4.out.below HQ3.out (Nat.le_refl _)) (HSL.out.below HQX.out (Nat.le_refl _)) (by rw [T4.out]; exact HWZ.out)).mono ?_
                rintro e w5 ⟨rfl, hq5⟩
                have HQ5 : Hid (Below v5.heap.size v5 w5) := HQ3.out.trans (hq5.mono HQ3.out.size)
                obtain ⟨bf, of, hbf, hkn, hcf⟩ := final_cell (Y4.out.below HQ5.out (Nat.le_refl _)) T4.out HKZ.out.1 HKZ.out.2
                rw [HZW.out] at hcf
                have hk0 : decide ((kz : Int) < 0) = false := decide_eq_false (by omega)
                have hk1 : decide ((kz : Int) ≥ (n4 : Int)) = false := decide_eq_false (by omega)
                have hk2 : (kz : Int) < (n4 : Int) := by omega
                have h0n : decide (0 < n4) = true := decide_eq_true (by omega)
                subst hbf
                simp only [walkV11, h0n]
                clear hq5 hkn
                go_wp2
                all_goals (try omega)
                go_roundw
                case rel => exact ⟨i + 1, false, true, by omega, rfl, rfl, by go_num, HBG2.out, HEN2.out, HQ5.out⟩
                case measure => simp [intOf]; omega
          · cases en
            · by_cases hcm : c = len1
              · have dcm : ((c : Int) == (len1 : Int)) = true := by simp; omega
                have HCM : Hid (decide (c = len1) = true) := decide_eq_true hcm
                by_cases hcz : c = zn
                · have dcz : ((c : Int) == (zn : Int)) = true := by simp; omega
                  have HCZ : Hid (decide (c = zn) = true) := decide_eq_true hcz
                  clear hcm hcz
                  have HBG2 : Hid (Bg (nums x0) (i + 1) zs true) := by
                    have h := HBG.out.next (by rw [HLX.out]; exact hlt) HZI.out
                    rw [HC.out, HZL.out] at h
                    exact h
                  have HEN2 : Hid (En (nums x0) (i + 1) zs true) := by
                    have h := HEN.out.next (by rw [HLX.out]; exact hlt) HZI.out
                    rw [HC.out, HZL.out, HSN.out] at h
                    rw [HCM.out, HCZ.out] at h; exact h
                  go_wp2_with fail
                  refine (walked11_is p4 za n4 zn c4 zc y4 z (some (kz : Int)) _ (Y4.out.below HQ3.out (Nat.le_refl _)) (HSL.out.below HQX.out (Nat.le_refl _)) (by rw [T4.out]; exact HWZ.out)).mono ?_
                  rintro e w5 ⟨rfl, hq5⟩
                  have HQ5 : Hid (Below v5.heap.size v5 w5) := HQ3.out.trans (hq5.mono HQ3.out.size)
                  obtain ⟨bf, of, hbf, hkn, hcf⟩ := final_cell (Y4.out.below HQ5.out (Nat.le_refl _)) T4.out HKZ.out.1 HKZ.out.2
                  rw [HZW.out] at hcf
                  have hk0 : decide ((kz : Int) < 0) = false := decide_eq_false (by omega)
                  have hk1 : decide ((kz : Int) ≥ (n4 : Int)) = false := decide_eq_false (by omega)
                  have hk2 : (kz : Int) < (n4 : Int) := by omega
                  have h0n : decide (0 < n4) = true := decide_eq_true (by omega)
                  subst hbf
                  simp only [walkV11, h0n]
                  clear hq5 hkn
                  go_wp2
                  all_goals (try omega)
                  go_roundw
                  case rel => exact ⟨i + 1, true, true, by omega, rfl, rfl, by go_num, HBG2.out, HEN2.out, HQ5.out⟩
                  case measure => simp [intOf]; omega
                · have dcz : ((c : Int) == (zn : Int)) = false := by simp; omega
                  have HCZ : Hid (decide (c = zn) = false) := decide_eq_false hcz
                  clear hcm hcz
                  have HBG2 : Hid (Bg (nums x0) (i + 1) zs true) := by
                    have h := HBG.out.next (by rw [HLX.out]; exact hlt) HZI.out
                    rw [HC.out, HZL.out] at h
                    exact h
                  have HEN2 : Hid (En (nums x0) (i + 1) zs false) := by
                    have h := HEN.out.next (by rw [HLX.out]; exact hlt) HZI.out
                    rw [HC.out, HZL.out, HSN.out] at h
                    rw [HCM.out, HCZ.out] at h; exact h
                  go_wp2_with fail
                  refine (walked11_is p4 za n4 zn c4 zc y4 z (some (kz : Int)) _ (Y4.out.below HQ3.out (Nat.le_refl _)) (HSL.out.below HQX.out (Nat.le_refl _)) (by rw [T4.out]; exact HWZ.out)).mono ?_
                  rintro e w5 ⟨rfl, hq5⟩
                  have HQ5 : Hid (Below v5.heap.size v5 w5) := HQ3.out.trans (hq5.mono HQ3.out.size)
                  obtain ⟨bf, of, hbf, hkn, hcf⟩ := final_cell (Y4.out.below HQ5.out (Nat.le_refl _)) T4.out HKZ.out.1 HKZ.out.2
                  rw [HZW.out] at hcf
                  have hk0 : decide ((kz : Int) < 0) = false := decide_eq_false (by omega)
                  have hk1 : decide ((kz : Int) ≥ (n4 : Int)) = false := decide_eq_false (by omega)
                  have hk2 : (kz : Int) < (n4 : Int) := by omega
                  have h0n : decide (0 < n4) = true := decide_eq_true (by omega)
                  subst hbf
                  simp only [walkV11, h0n]
                  clear hq5 hkn
                  go_wp2
                  all_goals (try omega)
                  go_roundw
                  case rel => exact ⟨i + 1, true, false, by omega, rfl, rfl, by go_num, HBG2.out, HEN2.out, HQ5.out⟩
                  case measure => simp [intOf]; omega
              · have dcm : ((c : Int) == (len1 : Int)) = false := by simp; omega
                have HCM : Hid (decide (c = len1) = false) := decide_eq_false hcm
                clear hcm
                have HBG2 : Hid (Bg (nums x0) (i + 1) zs true) := by
                  have h := HBG.out.next (by rw [HLX.out]; exact hlt) HZI.out
                  rw [HC.out, HZL.out] at h
                  exact h
                have HEN2 : Hid (En (nums x0) (i + 1) zs false) := by
                  have h := HEN.out.next (by rw [HLX.out]; exact hlt) HZI.out
                  rw [HC.out, HZL.out, HSN.out] at h
                  rw [HCM.out] at h; exact h
                go_wp2_with fail
                refine (walked11_is p4 za n4 zn c4 zc y4 z (some (kz : Int)) _ (Y4.out.below HQ3.out (Nat.le_refl _)) (HSL.out.below HQX.out (Nat.le_refl _)) (by rw [T4.out]; exact HWZ.out)).mono ?_
                rintro e w5 ⟨rfl, hq5⟩
                have HQ5 : Hid (Below v5.heap.size v5 w5) := HQ3.out.trans (hq5.mono HQ3.out.size)
                obtain ⟨bf, of, hbf, hkn, hcf⟩ := final_cell (Y4.out.below HQ5.out (Nat.le_refl _)) T4.out HKZ.out.1 HKZ.out.2
                rw [HZW.out] at hcf
                have hk0 : decide ((kz : Int) < 0) = false := decide_eq_false (by omega)
                have hk1 : decide ((kz : Int) ≥ (n4 : Int)) = false := decide_eq_false (by omega)
                have hk2 : (kz : Int) < (n4 : Int) := by omega
                have h0n : decide (0 < n4) = true := decide_eq_true (by omega)
                subst hbf
                simp only [walkV11, h0n]
                clear hq5 hkn
                go_wp2
                all_goals (try omega)
                go_roundw
                case rel => exact ⟨i + 1, true, false, by omega, rfl, rfl, by go_num, HBG2.out, HEN2.out, HQ5.out⟩
                case measure => simp [intOf]; omega
            · have HBG2 : Hid (Bg (nums x0) (i + 1) zs true) := by
                have h := HBG.out.next (by rw [HLX.out]; exact hlt) HZI.out
                rw [HC.out, HZL.out] at h
                exact h
              have HEN2 : Hid (En (nums x0) (i + 1) zs true) := by
                have h := HEN.out.next (by rw [HLX.out]; exact hlt) HZI.out
                rw [HC.out, HZL.out, HSN.out] at h
                exact h
              go_wp2_with fail
              refine (walked11_is p4 za n4 zn c4 zc y4 z (some (kz : Int)) _ (Y4.out.below HQ3.out (Nat.le_refl _)) (HSL.out.below HQX.out (Nat.le_refl _)) (by rw [T4.out]; exact HWZ.out)).mono ?_
              rintro e w5 ⟨rfl, hq5⟩
              have HQ5 : Hid (Below v5.heap.size v5 w5) := HQ3.out.trans (hq5.mono HQ3.out.size)
              obtain ⟨bf, of, hbf, hkn, hcf⟩ := final_cell (Y4.out.below HQ5.out (Nat.le_refl _)) T4.out HKZ.out.1 HKZ.out.2
              rw [HZW.out] at hcf
              have hk0 : decide ((kz : Int) < 0) = false := decide_eq_false (by omega)
              have hk1 : decide ((kz : Int) ≥ (n4 : Int)) = false := decide_eq_false (by omega)
              have hk2 : (kz : Int) < (n4 : Int) := by omega
              have h0n : decide (0 < n4) = true := decide_eq_true (by omega)
              subst hbf
              simp only [walkV11, h0n]
              clear hq5 hkn
              go_wp2
              all_goals (try omega)
              go_roundw
              case rel => exact ⟨i + 1, true, true, by omega, rfl, rfl, by go_num, HBG2.out, HEN2.out, HQ5.out⟩
              case measure => simp [intOf]; omega
        · obtain rfl : len0 = i := by omega
          have hbg : bg = false := by
            have h := HBG.out
            rw [← HLX.out] at h
            rw [h.all HSH.out]; exact HMEM.out
          have hen : en = decide (zs ∈ nums x0) := by
            have h := HEN.out
            rw [← HLX.out] at h
            exact h.all
          subst hbg
          have B6 := B5.trans (HQ.out.mono B5.size)
          have HEQ := Lib.hid hen
          clear hen
          go_wp2_with fail
          refine (tcheck_is p4 n4 c4 y4 true _ (Y4.out.below HQ.out (Nat.le_refl _)) (by rw [T4.out]; exact HCHK.out)).mono ?_
          rintro e v7 ⟨rfl, hb7⟩
          have B7' := B6.trans (hb7.mono B6.size)
          have Y7' := Lib.hid ((Y4.out.below HQ.out (Nat.le_refl _)).below hb7 (Nat.le_refl _))
          clear hb7
          go_wp2_with fail
          refine (dleast_is p4 n4 c4 y4 true _ Y7'.out (by rw [T4.out]; exact HLST.out)).mono ?_
          rintro e v8 ⟨rfl, hb8⟩
          have B7 := B7'.trans (hb8.mono B7'.size)
          have Y7 := Lib.hid (Y7'.out.below hb8 (Nat.le_refl _))
          have hle := HLE.out
          clear hb8
          have hef : en = false := by
            rw [HEQ.out]
            refine decide_eq_false fun h => ?_
            have := decide_eq_true (word_begs HSH.out h)
            rw [HMEM.out] at this; cases this
          subst hef
          go_wp2
          go_ret
          exact ⟨by first | rfl | simp, B7⟩
  · have hne : (ge != 0) = true := by simpa using hge
    have hgl : gl = [] := by have h := (dmade_err (nums x0)).2; rw [HG.out] at h; exact h hge
    obtain rfl : n4 = 0 := by rw [← Y4.out.1, ← sts_length, T4'.out, hgl]; rfl
    have hee : (ge == ge) = true := by simp
    clear hge hgl
    go_wp2
    go_ret
    exact ⟨rfl, B4⟩

set_option maxRecDepth 100000 in
theorem lifted (os : Os) (started : os.Started) (H : Type) (enc : TypeId × Value → H) :
    ReturnsInHanded {} Try.checked os 4 .any (Rows.dawgHasSpec.pre6 enc Try.prog Try.f4 Rows.dawgHasRow.domain false) (Rows.dawgHasSpec.post enc Try.prog Try.f4 false true false false) := by
  refine returnsInHanded_of_change (C := Try.checked) own started (by kernel_rfl) Try.func4
    (ChangeSpec.witness6 (enc := enc) (C := Try.checked) false ⟨#[], #[.slice none 0 0, .slice none 0 0], []⟩ 8 (by kernel_rfl) (by kernel_rfl) (by kernel_rfl) (by kernel_rfl)) ?_
  intro W base args ds gs before hval0 hW hcnd _
  have hval : ∀ (j : Nat) t v, Try.f4.params[j]? = some t → args[j]? = some v → Value.okWide Try.prog W .any base t v := hval0
  have hW' := hW
  obtain ⟨p, q, hA0, hV, rfl, hfz, hnd⟩ := hW
  have hA : DataW.TrodAll enc Try.prog W 0 (fun _ => true) true Try.f4.params.toList args.toList ds p := hA0
  rw [Try.params4] at hA hval
  obtain ⟨v0, vs0, d0, ds0, p0, q0, hargs, rfl, rfl, h0, r0⟩ := trodAll_cons hA
  obtain ⟨v1, vs1, d1, ds1, p1, q1, rfl, rfl, rfl, h1, r1⟩ := trodAll_cons r0
  obtain ⟨rfl, rfl, rfl⟩ := trodAll_nil r1
  obtain rfl : args = #[v0, v1] := by cases args; simp_all
  obtain ⟨rfl, rfl⟩ := trodVars_none hV
  obtain ⟨a0, len0, cap0, rfl⟩ := okWide_slice Try.underlying22 (hval 0 22 v0 rfl rfl)
  have k0 := h0
  have lt0 : ∀ x ∈ p0, x.block < W.heap.size := by obtain ⟨m, hm⟩ := k0; exact DataW.trod_lt m _ _ _ hm
  obtain ⟨x0, w0, n0⟩ : ∃ xs, Ws W a0 len0 cap0 xs ∧ (a0 = none → cap0 = 0) := by
    obtain ⟨fuel, hf⟩ := h0
    rcases Go.Deep.open_int_rows Try.underlying22 Try.underlying33 Try.underlying3 (by kernel_rfl) (by kernel_rfl) hf with ⟨hcs, _⟩ | ⟨x, l, c, A, L, C, Z, hcs, _, hl, hm, _, hr⟩
    · simp [Value.cells] at hcs
      obtain ⟨rfl, rfl, rfl⟩ := hcs
      exact ⟨[], Ws.nil, fun _ => rfl⟩
    · simp [Value.cells] at hcs
      obtain ⟨rfl, rfl, rfl⟩ := hcs
      exact ⟨_, Ws.of_rows hl hm hr, fun h => by cases h⟩
  obtain ⟨a1, len1, cap1, rfl⟩ := okWide_slice Try.underlying33 (hval 1 33 v1 rfl rfl)
  have k1 := h1
  have lt1 : ∀ x ∈ p1, x.block < W.heap.size := by obtain ⟨m, hm⟩ := k1; exact DataW.trod_lt m _ _ _ hm
  obtain ⟨z1, w1⟩ : ∃ zs, IsRow .i64 W a1 len1 cap1 zs := by
    obtain ⟨fuel, hf⟩ := h1
    rcases open_ints Try.underlying33 Try.underlying3 (by kernel_rfl) hf with ⟨hcs, _⟩ | ⟨x, l, c, zs, hcs, _, hl, hm, hz, _, hcell, hwz⟩
    · simp [Value.cells] at hcs
      obtain ⟨rfl, rfl, rfl⟩ := hcs
      exact ⟨[], .inl ⟨rfl, rfl, rfl, rfl⟩⟩
    · simp [Value.cells] at hcs
      obtain ⟨rfl, rfl, rfl⟩ := hcs
      exact ⟨zs, .inr ⟨_, rfl, hl, hm, by simpa using hz, hcell, hwz⟩⟩
  clear hA0 hval0
  refine (walk a0 len0 cap0 x0 a1 len1 cap1 z1 W w0 n0 w1).mono fun e W' ⟨he, bel⟩ => ?_
  subst he
  exact ⟨_, rfl, _, _, _, [], _, [], hW', trodAll_mk1 (shut_bool Try.underlying4 _), (trodAll_cons_mk (Below.trod laidOut (by kernel_rfl) (of_decide_eq_true (by kernel_rfl)) k0 bel lt0) (trodAll_cons_mk (Below.trod laidOut (by kernel_rfl) (of_decide_eq_true (by kernel_rfl)) k1 bel lt1) trodAll_mk0)), rfl, bel.frame _, fun h => by cases h⟩

theorem over : Rows.dawgHasRow.holds Try.pinned (OpenSpec.ofChange Rows.dawgHasSpec) :=
  OpenClaim.holds_of_wide 4 Try.f4 rfl rfl rfl rfl rfl rfl rfl ⟨rfl, rfl, rfl, rfl, rfl⟩ rfl rfl rfl rfl rfl (by kernel_rfl) Try.func4 (by kernel_rfl)
    (of_decide_eq_true (by kernel_rfl)) (by unfold Func.isWrapper; first | (rw [if_pos (by decide +kernel)]; kernel_rfl) | (rw [if_neg (by decide +kernel)]; exact ⟨rfl, rfl⟩))
    (fun os started H enc _ => lifted os started H enc)

/-- the statement -/
theorem proved : Rows.DawgHasSaid := over
#print axioms proved
end Go.Proofs.Ytgbiobhladeooaa.dawgHas
