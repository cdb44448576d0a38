/- For all words, DawgHead answers true, and turns nothing that was there. No condition. -/
import Derived.Test.YtgbiobhladeooaaRows
import Derived.Test.YtgbiobhladeooaaDawgAwake
import Derived.Test.YtgbiobhladeooaaDawgProg
import Derived.Test.YtgbiobhladeooaaDawgDef
import Derived.Test.YtgbiobhladeooaaPackA
import Derived.Test.YtgbiobhladeooaaDawgLists
import Derived.Test.YtgbiobhladeooaaPackN
import Derived.Test.YtgbiobhladeooaaOrderWalkA
import Derived.Test.YtgbiobhladeooaaOrderWalkB
import Derived.Test.YtgbiobhladeooaaOrderWalkE
import Derived.Test.YtgbiobhladeooaaPackQ
import Derived.WalkKit
import Derived.ProofKit
import Derived.OpenShut
import Derived.ShutString
import Derived.ChangeOld
import Derived.Below
import Derived.Deep.Matrix
import Derived.SizedLaws
namespace Go.Proofs.Ytgbiobhladeooaa.dawgHead
open Go.ChangeShapes Go.WideShapes Go.ChangeAt Go.RowKit
set_option linter.unusedVariables false

theorem own : ownKnob Try.prog.godebug = none := by kernel_rfl
theorem laidOut : laidOutB Try.prog = true := by kernel_rfl

/-- a slice of integers that came in -/
def IsRow (k : IntKind) (w : World) (a : Option Addr) (len cap : Nat) (zs : List Int) : Prop :=
  (a = none ∧ len = 0 ∧ cap = 0 ∧ zs = []) ∨
  ∃ x, a = some x ∧ len ≤ cap ∧ cap ≤ maxLen ∧ zs.length = cap ∧ (∀ i, i < zs.length → w.cell? (x.add i) = some (.int k (zs.getD i 0))) ∧ ∀ n ∈ zs, (Lit.int k n).wf = true

open Tri Daw
theorem dmade_ok {ws : List (List Int)} (h : (dmade ws).2 = 0) : ws.length ≤ 300 ∧ (∀ z ∈ ws, Wl.fit z = true) ∧ Rise ws ∧ dmade ws = (dmake ws, 0) := by
  unfold dmade at h ⊢
  by_cases he : (Wl.write ws).2 = 0
  · rw [if_pos he]
    rcases Wl.write_err ws with ⟨_, h1, h2, h3, _⟩ | ⟨h1, _⟩
    · exact ⟨h1, h2, h3, rfl⟩
    · exact absurd he h1
  · rw [if_neg he] at h; exact absurd h he
theorem dmade_of {ws : List (List Int)} (h1 : ws.length ≤ 300) (h2 : ∀ z ∈ ws, Wl.fit z = true) (h3 : Rise ws) : dmade ws = (dmake ws, 0) := by
  have he : (Wl.write ws).2 = 0 := by
    unfold Wl.write
    rw [if_neg (by omega), if_pos ⟨List.all_eq_true.2 h2, Wl.rises_iff.2 h3⟩]
  unfold dmade
  rw [if_pos he]
theorem short_fit {ws : List (List Int)} (h : ∀ z ∈ ws, Wl.fit z = true) : Tri.Short ws := fun z hz => (Wl.fit_parts (h z hz)).2.1
theorem fit_head {z : List Int} {d : Nat} (h : Wl.fit z = true) (hl : z.length ≤ 19) (hd : d < 26) : Wl.fit (((97 : Int) + (d : Int)) :: z) = true := by
  unfold Wl.fit at *
  simp only [Bool.and_eq_true, decide_eq_true_eq, Bool.not_eq_true', decide_eq_false_iff_not] at h ⊢
  obtain ⟨⟨⟨h1, h2⟩, h3⟩, h4⟩ := h
  refine ⟨⟨⟨by simp, by simp; omega⟩, ?_⟩, ?_⟩
  · rw [List.all_cons, h3, Bool.and_true]
    have : ∀ d : Nat, d < 26 → Wl.may ((97 : Int) + (d : Int)) = true := by decide
    exact this d hd
  · simp; omega
/-- the first words may have a sign ahead of them -/
def Tl (ws : List (List Int)) (i : Nat) : Prop := ∀ z ∈ ws.take i, z.length ≤ 19
theorem Tl.next {ws : List (List Int)} {i : Nat} {z : List Int} (h : Tl ws i) (hi : i < ws.length) (hz : ws.getD i [] = z) (hl : z.length ≤ 19) : Tl ws (i + 1) := by
  intro x hx
  have e : ws.take (i + 1) = ws.take i ++ [z] := by rw [List.take_succ_eq_append_getElem hi, ← hz]; simp [hi]
  rw [e] at hx
  rcases List.mem_append.1 hx with hx | hx
  · exact h x hx
  · rw [List.mem_singleton.1 hx]; exact hl
theorem map_next {ws : List (List Int)} {i : Nat} {z : List Int} (f : List Int → List Int) (hi : i < ws.length) (hz : ws.getD i [] = z) : (ws.take (i + 1)).map f = (ws.take i).map f ++ [f z] := by
  have e : ws.take (i + 1) = ws.take i ++ [z] := by rw [List.take_succ_eq_append_getElem hi, ← hz]; simp [hi]
  rw [e, List.map_append]; rfl
theorem size_alloc (w : World) (o : Obj) : (w.alloc o).heap.size = w.heap.size + 1 := by unfold World.alloc; simp
theorem own_one (w : World) (y : Int) : (w.alloc (.cells #[.int .i64 y] 3)).ownsRow w.heap.size 3 1 (.slice (some ⟨w.heap.size, 0, none⟩) 1 1) 1 (i64s [y]) := by
  have h := World.ownsRow_lit (base := w.heap.size) (e := 3) (size := 1) w #[.int .i64 y] 1 (Nat.le_refl _) (by unfold maxLen; omega) (by simp)
  simpa [i64s] using h
theorem shift_at {ws : List (List Int)} {y : Int} {i : Nat} {f : Bool} {arcs : List (Int × Int)} (h : (dmake ws).getD i St.no = ⟨f, arcs⟩) (hi : i < (dmake ws).length) : ((⟨false, [(y, 1)]⟩ : St) :: (dmake ws).map shift).getD (i + 1) St.no = ⟨f, arcs.map fun a => (a.1, a.2 + 1)⟩ := by
  rw [List.getD_cons_succ, List.getD_eq_getElem?_getD, List.getElem?_map]
  rw [List.getD_eq_getElem?_getD, List.getElem?_eq_getElem hi, Option.getD_some] at h
  rw [List.getElem?_eq_getElem hi, h]
  rfl

/-! ### STEP 1: the walk -/
set_option maxHeartbeats 6400000 in
set_option maxRecDepth 100000 in
theorem walk (a0 : Option Addr) (len0 cap0 : Nat) (x0 : List Wd) (a1 : Int) (w : World) (w0 : Ws w a0 len0 cap0 x0) (n0 : a0 = none → cap0 = 0) (w1 : (Lit.int .u8 a1).wf = true) :
    Calls Try.prog 7 #[.slice a0 len0 cap0, .int .u8 a1] w fun e w' => e = .returned (.bool true) ∧ Below w.heap.size w w' := by
  have hcm0 := w0.2.2.1
  have hnc0 := w0.2.1
  unfold maxLen at hcm0
  have HX0 := Lib.hid w0
  have HXN0 := Lib.hid n0
  clear w0 n0
  have hu1 := bounds_u8 w1
  obtain ⟨s0, rfl⟩ : ∃ s : Nat, a1 = (s : Int) := ⟨a1.toNat, by omega⟩
  obtain ⟨d, hd⟩ : ∃ d, d = s0 % 26 := ⟨_, rfl⟩
  have hd26 : d < 26 := by omega
  have hds : (s0 : Int) % 26 = (d : Int) := by omega
  have hwa : IntKind.u8.wrap (d : Int) = (d : Int) := by rw [IntKind.wrap_u8]; omega
  have hwb : IntKind.i64.wrap (d : Int) = (d : Int) := by rw [IntKind.wrap_i64]; omega
  have hwc : IntKind.i64.wrap ((97 : Int) + (d : Int)) = (97 : Int) + (d : Int) := by rw [IntKind.wrap_i64]; omega
  have hwy : (Lit.int .i64 ((97 : Int) + (d : Int))).wf = true := WalkArith.wf_i64 ⟨by omega, by omega⟩
  have HWY := Lib.hid hwy
  clear hd hwy hu1 w1
  obtain ⟨⟨gl, ge⟩, hg⟩ : ∃ g, dmade (nums x0) = g := ⟨_, rfl⟩
  have HG := Lib.hid hg
  clear hg
  go_enter Try.func7, Try.ntmps7
  go_wp2_with fail
  refine (awake_any _).mono ?_
  rintro e v1 ⟨rfl, B1⟩
  have X1 := Lib.hid (HX0.out.below B1 (Nat.le_refl _))
  go_wp2_with fail
  refine (dmake_is a0 len0 cap0 x0 _ _ X1.out HXN0.out HG.out).mono ?_
  rintro e wo ⟨p4, n4, c4, y4, rfl, hs4, hst4, -, hb4⟩
  have B4 := B1.trans (hb4.mono B1.size)
  have X4 := Lib.hid (X1.out.below hb4 (Nat.le_refl _))
  have Y4 := Lib.hid hs4
  have T4' : Hid (sts y4 = gl) := hst4
  have HN4 : Hid (gl.length = n4) := by
    have h : sts y4 = gl := hst4
    rw [← h, sts_length]; exact hs4.1
  clear hb4 hs4 hst4
  simp only []
  go_wp2_with fail
  refine (few_of 100 100 a0 len0 cap0 x0 _ rfl X4.out).mono ?_
  rintro e v3 ⟨he, rfl⟩
  rcases he with rfl | ⟨rfl, -, hn60⟩
  · go_wp2
    go_ret
    exact ⟨rfl, B4⟩
  by_cases hge : ge = 0
  · subst hge
    by_cases hz0 : len0 = 0
    · subst hz0
      go_wp2
      go_ret
      exact ⟨rfl, B4⟩
    have hz2 : ((len0 : Int) == 0) = false := by simpa using hz0
    have HOK := Lib.hid (dmade_ok (ws := nums x0) (by rw [HG.out]))
    have HSH : Hid (Tri.Short (nums x0)) := short_fit HOK.out.2.1
    have HRI : Hid (Rise (nums x0)) := HOK.out.2.2.1
    have HLX : Hid ((nums x0).length = len0) := by show _ = _; rw [nums_length, X4.out.1]
    have HKN : Hid ((kinds (nums x0)).length = n4) := by
      show _ = _
      have h := HOK.out.2.2.2
      rw [HG.out] at h
      have h2 : gl = dmake (nums x0) := congrArg Prod.fst h
      rw [← dmake_length, ← h2, HN4.out]
    have T4 : Hid (sts y4 = dmake (nums x0)) := by have h := HOK.out.2.2.2; rw [HG.out] at h; show _ = _; rw [T4'.out]; exact congrArg Prod.fst h
    have hn4 : n4 ≤ 2001 := by have h := begs_le (nums x0); have h2 := kinds_le (nums x0); rw [HLX.out] at h; rw [HKN.out] at h2; omega
    have HNE : Hid (nums x0 ≠ []) := by
      intro h
      have h1 := HLX.out
      rw [h] at h1; exact hz0 h1.symm
    clear HG HN4 T4' hz0
    go_wp2
    go_loopw [9, 10] (fun lv ix wn => ∃ (i : Nat) (pa : Option Addr) (c1 : Nat) (outs : List Wd), i ≤ len0 ∧ lv = .slice pa i c1 ∧ ix = .int .i64 (i : Int) ∧ Hid (Ml wo.heap.size wn pa i c1 outs) ∧ Hid (nums outs = ((nums x0).take i).map fun w => ((97 : Int) + (d : Int)) :: w) ∧ Hid (Tl (nums x0) i) ∧ Hid (Below wo.heap.size wo wn)) (fun _ ix _ => len0 - (intOf ix).toNat)
    case atStart => exact ⟨0, none, 0, [], Nat.zero_le _, rfl, rfl, Ml.start _ _, rfl, (fun z hz => by simp at hz), Below.refl _ _⟩
    case round =>
      obtain ⟨wn, hwn⟩ : ∃ x, x = wr := ⟨_, rfl⟩
      subst hwn
      obtain ⟨i, pa, c1, outs, hi, rfl, rfl, HML, HNU, HTL, HW1⟩ := hrel
      by_cases hlt : i < len0
      · obtain ⟨b1, o1, za, zn, zc, z, rfl, hb1, hgd, hclw, hslw, hz⟩ := X4.out.one i hlt
        have hcl : wn.cell? ⟨b1, o1 + i, none⟩ = some (.slice za zn zc) := by rw [HW1.out.cell (p := ⟨b1, o1 + i, none⟩) hb1]; exact hclw
        have hzm : z ∈ nums x0 := by rw [← hz, List.getD_eq_getElem?_getD, List.getElem?_eq_getElem (by rw [HLX.out]; exact hlt), Option.getD_some]; exact List.getElem_mem _
        have hfz := HOK.out.2.1 z hzm
        have hz0 : 0 < zn := by rw [← hslw.1]; exact List.length_pos_iff.2 (Wl.fit_parts hfz).1
        have hz20 : zn ≤ 20 := by rw [← hslw.1]; exact (Wl.fit_parts hfz).2.1
        obtain ⟨zb, zo, rfl, hzb, hzc⟩ := hslw.at hz0
        have hznc := hslw.2.1
        have hzcm := hslw.2.2.1
        unfold maxLen at hzcm
        have HZL := Lib.hid hslw.1
        have HSL : Hid (Sl .i64 wn (some ⟨zb, zo, none⟩) zn zc z) := hslw.below HW1.out (Nat.le_refl _)
        have HZ := Lib.hid hz
        have hlti : (i : Int) < (len0 : Int) := by omega
        have HHB := Lib.hid hb1
        clear hgd hclw hslw hz hzm hb1 hzb hzc hfz
        by_cases h19 : 19 < zn
        · have h19i : (19 : Int) < (zn : Int) := by omega
          have B9 := B4.trans (HW1.out.mono B4.size)
          go_wp2
          go_ret
          exact ⟨rfl, B9⟩
        have h19i : ¬ ((19 : Int) < (zn : Int)) := by omega
        have HTL2 : Hid (Tl (nums x0) (i + 1)) := HTL.out.next (by rw [HLX.out]; exact hlt) HZ.out (by rw [HZL.out]; omega)
        have HBN : Hid (Below wn.heap.size wn (wn.alloc (.cells #[.int .i64 ((97 : Int) + (d : Int))] 3))) := (Below.refl _ wn).alloc (Nat.le_refl _) _
        have hcl2 : (wn.alloc (.cells #[.int .i64 ((97 : Int) + (d : Int))] 3)).cell? ⟨b1, o1 + i, none⟩ = some (.slice (some ⟨zb, zo, none⟩) zn zc) := by
          have h1 := HHB.out
          have h2 := HW1.out.size
          rw [HBN.out.cell (p := ⟨b1, o1 + i, none⟩) (by show b1 < _; omega)]; exact hcl
        go_wp2_with first
          | (at_builtin; refine append_ints rfl (.tmp 53) (.tmp 57) (by rfl) wn.heap.size _ 1 [(97 : Int) + (d : Int)] (by rfl) (own_one wn _) (some ⟨zb, zo, none⟩) zn zc z (by rfl) (HSL.out.below HBN.out (Nat.le_refl _)) (fun h => by cases h) (zn + 1) (by omega) (by omega) (by rw [size_alloc]; omega) ?_
             intro a6 c6 w6 hown6 hb6 hnil6
             have HO6 := Lib.hid hown6
             have HB6 : Hid (Below wn.heap.size wn w6) := HBN.out.trans hb6
             have HM6 := Lib.hid ((HML.out.below HB6.out).below ((Below.refl _ w6).alloc (Nat.le_refl _) (.cells #[.slice a6 (zn + 1) c6] 33)))
             have HG6 : Hid (Wd.Good w6 (Wd.mk a6 (zn + 1) c6 ([(97 : Int) + (d : Int)] ++ z))) := Sl.of_owns HO6.out (by
               intro x hx
               rcases List.mem_append.1 hx with hx | hx
               · rw [List.mem_singleton.1 hx]; exact HWY.out
               · exact HSL.out.2.2.2.1 x hx) (by simp [HZL.out])
             clear hown6 hb6 hnil6)
          | (at_builtin; refine append_words_g rfl (.tmp 51) (.tmp 59) (by rfl) wo.heap.size _ i outs (by rfl) HM6.out.row (some ⟨w6.heap.size, 0, none⟩) 1 1 [Wd.mk a6 (zn + 1) c6 ([(97 : Int) + (d : Int)] ++ z)] (by rfl) (Ws.newc [Wd.mk a6 (zn + 1) c6 ([(97 : Int) + (d : Int)] ++ z)] (by intro x hx; rw [List.mem_singleton.1 hx]; exact HG6.out) (by simp [maxLen]) rfl rfl rfl) (fun h => by cases h) (i + 1) rfl (by omega) (by rw [size_alloc]; have := HB6.out.size; have := HW1.out.size; omega) ?_
             intro a7 c7 w7 hown7 hb7 hg7 hnil7
             have HM7 := Lib.hid (HM6.out.add (Wd.mk a6 (zn + 1) c6 ([(97 : Int) + (d : Int)] ++ z)) (World.ownsRow.alloc (own_lower HO6.out HW1.out.size) _) HG6.out.2.2.2.1 HG6.out.1 hown7 hg7 hnil7)
             have HB7 : Hid (Below wo.heap.size wo w7) := ((HW1.out.trans (HB6.out.mono HW1.out.size)).alloc ((HW1.out.trans (HB6.out.mono HW1.out.size))).size _).trans hb7
             clear hown7 hb7 hg7 hnil7)
        go_roundw
        case rel =>
          have HNU2 : Hid (nums (outs ++ [Wd.mk a6 (zn + 1) c6 ([(97 : Int) + (d : Int)] ++ z)]) = ((nums x0).take (i + 1)).map fun w => ((97 : Int) + (d : Int)) :: w) := by
            show _ = _
            rw [nums_app, HNU.out, map_next (fun w => ((97 : Int) + (d : Int)) :: w) (by rw [HLX.out]; exact hlt) HZ.out]
            rfl
          first
            | exact ⟨i + 1, a7, c7, outs ++ [Wd.mk a6 (zn + 1) c6 ([(97 : Int) + (d : Int)] ++ z)], by omega, rfl, by go_num, HM7.out, HNU2.out, HTL2.out, HB7.out⟩
            | exact ⟨_, _, _, ⟨i + 1, by omega, a7, c7, rfl, rfl, outs ++ [Wd.mk a6 (zn + 1) c6 ([(97 : Int) + (d : Int)] ++ z)], HM7.out, (by rw [← List.map_take]; exact HNU2.out), HTL2.out⟩, rfl, rfl, by go_num⟩
        case measure => simp [intOf]; omega
      · obtain rfl : len0 = i := by omega
        have HNT : Hid (nums outs = head ((97 : Int) + (d : Int)) (nums x0)) := by
          have h := HNU.out
          rw [List.take_of_length_le (by rw [HLX.out]; exact Nat.le_refl _)] at h; exact h
        have HALL : Hid (∀ z ∈ nums x0, z.length ≤ 19) := by
          have h := HTL.out
          unfold Tl at h
          rw [List.take_of_length_le (by rw [HLX.out]; exact Nat.le_refl _)] at h; exact h
        have HFT : Hid (∀ z ∈ head ((97 : Int) + (d : Int)) (nums x0), Wl.fit z = true) := fun z hz => by
          obtain ⟨w, hw, rfl⟩ := mem_head.1 hz
          exact fit_head (HOK.out.2.1 w hw) (HALL.out w hw) hd26
        have HMD : Hid (dmade (head ((97 : Int) + (d : Int)) (nums x0)) = (dmake (head ((97 : Int) + (d : Int)) (nums x0)), 0)) := dmade_of (by unfold head; rw [List.length_map, HLX.out]; omega) HFT.out (head_rise HRI.out)
        have HDH := Lib.hid (dhead (y := (97 : Int) + (d : Int)) HSH.out (short_fit HFT.out) HRI.out HNE.out)
        go_wp2_with fail
        refine (dmake_is pa len0 c1 outs (dmake (head ((97 : Int) + (d : Int)) (nums x0)), 0) _ HML.out.words HML.out.nil (by rw [HNT.out]; exact HMD.out)).mono ?_
        rintro e v8 ⟨p8, n8, c8, y8, rfl, hs8, hst8, -, hb8⟩
        have HW8 : Hid (Below wo.heap.size wo v8) := HW1.out.trans (hb8.mono HW1.out.size)
        have B8 := B4.trans (HW8.out.mono B4.size)
        have Y8 := Lib.hid hs8
        have YL := Lib.hid (Y4.out.below HW8.out (Nat.le_refl _))
        have T8 : Hid (sts y8 = (⟨false, [((97 : Int) + (d : Int), 1)]⟩ : St) :: (dmake (nums x0)).map shift) := by
          have e : sts y8 = dmake (head ((97 : Int) + (d : Int)) (nums x0)) := hst8
          show _ = _
          rw [e, HDH.out]
        have HN8 : Hid (n8 = n4 + 1) := by
          show _ = _
          rw [← Y8.out.1, ← sts_length, T8.out, List.length_cons, List.length_map, dmake_length, HKN.out]
        have hw8 : IntKind.i64.wrap ((n4 : Int) + 1) = (n4 : Int) + 1 := by rw [IntKind.wrap_i64]; omega
        have he8 : ((n8 : Int) != (n4 : Int) + 1) = false := by rw [HN8.out]; simp
        have h08 : 0 < n8 := by rw [HN8.out]; omega
        have h08i : (0 : Int) < (n8 : Int) := by omega
        obtain ⟨b8, o8, f8, sa8, sn8, sc8, arcs8, hp8, hbl8, hcf8, hcs8, har8, hy8⟩ := Y8.out.one 0 h08
        have h8 := sts_at y8 0
        rw [hy8, T8.out] at h8
        have h8f : f8 = false := by have h := congrArg St.final h8; exact h.symm
        have h8a : arcs8 = [((97 : Int) + (d : Int), 1)] := by have h := congrArg St.arcs h8; exact h.symm
        subst hp8 h8f h8a
        obtain rfl : sn8 = 1 := by rw [← har8.1]; rfl
        obtain ⟨b9, o9, s9, t9, hsa9, hb9, hc9, hd9, _, _, hx9⟩ := har8.one 0 (by omega)
        obtain ⟨rfl, rfl⟩ : (97 : Int) + (d : Int) = s9 ∧ (1 : Int) = t9 := by
          simpa using hx9
        subst hsa9
        rw [Nat.zero_mul, Nat.add_zero] at hcf8 hcs8 hc9 hd9
        have eyy : (((97 : Int) + (d : Int)) != ((97 : Int) + (d : Int))) = false := by simp
        have eyz : (((97 : Int) + (d : Int)) == ((97 : Int) + (d : Int))) = true := by simp
        clear hb8 hs8 hst8 hbl8 har8 hy8 h8 hb9 hx9
        simp only []
        go_wp2
        go_loopw [13] (fun ix wr => ∃ i : Nat, i ≤ n4 ∧ ix = .int .i64 (i : Int) ∧ Hid (∃ q, wr = v8.drewN q)) (fun ix _ => n4 - (intOf ix).toNat)
        case atStart => exact ⟨0, Nat.zero_le _, rfl, ⟨0, rfl⟩⟩
        case round =>
          obtain ⟨i, hi, rfl, HQ⟩ := hrel
          by_cases hlt : i < n4
          · obtain ⟨j, hj⟩ : ∃ j, j = i + 1 := ⟨_, rfl⟩
            obtain ⟨b1, o1, f, sa, sn, sc, arcs, hp1, _, hx1, hx2, hars, hz1⟩ := (YL.out.drawn HQ.out).one i hlt
            obtain ⟨b2, o2, f', sa', sn', sc', arcs', hp2, _, hv1, hv2, hars', hz2⟩ := (Y8.out.drawn HQ.out).one j (by rw [HN8.out, hj]; omega)
            subst hp1
            cases hp2
            have HST : Hid ((dmake (nums x0)).getD i St.no = ⟨f, arcs⟩) := by
              show _ = _
              rw [← T4.out, sts_at, hz1]; rfl
            have hj2 := sts_at y8 j
            rw [hz2, T8.out, hj, shift_at HST.out (by rw [dmake_length, HKN.out]; exact hlt)] at hj2
            have h2f : f' = f := by have h := congrArg St.final hj2; exact h.symm
            have h2a : arcs' = arcs.map fun a => (a.1, a.2 + 1) := by have h := congrArg St.arcs hj2; exact h.symm
            subst h2f
            obtain rfl : sn' = sn := by rw [← hars'.1, h2a, List.length_map, hars.1]
            have HAR := Lib.hid hars
            have HAR' := Lib.hid hars'
            have HMAP := Lib.hid h2a
            have hsn : sn' ≤ 9223372036854775807 := by
              have h1 := hars.2.1
              have h2 := hars.2.2.1
              unfold maxLen at h2
              omega
            have HUP : Hid (∀ k, k < sn' → ∀ {s t : Int}, arcs.getD k (0, 0) = (s, t) → (i : Int) < t ∧ t < (n4 : Int)) := by
              intro k hk s t h
              have hkl : k < arcs.length := by rw [HAR.out.1]; exact hk
              have hm : (s, t) ∈ ((dmake (nums x0)).getD i St.no).arcs := by
                rw [HST.out, ← h]
                show arcs.getD k (0, 0) ∈ arcs
                rw [List.getD_eq_getElem?_getD, List.getElem?_eq_getElem hkl, Option.getD_some]; exact List.getElem_mem _
              have h2 := darc_up HSH.out HRI.out (by rw [HKN.out]; exact hlt) hm
              rw [HKN.out] at h2; exact h2
            have hlti : (i : Int) < (n4 : Int) := by omega
            have hltj : (j : Int) < (n8 : Int) := by rw [HN8.out, hj]; omega
            have hwj : IntKind.i64.wrap ((i : Int) + 1) = (j : Int) := by rw [IntKind.wrap_i64]; omega
            have HJ := Lib.hid hj
            have hff : (f' != f') = false := by simp
            have hss : ((sn' : Int) != (sn' : Int)) = false := by simp
            clear hars hars' hz1 hz2 hj2 h2a hj
            go_wp2
            go_quiet (fail)
            go_wp2
            generalize wr = wq at *
            go_loopw [14] (fun ix wr => ∃ k : Nat, k ≤ sn' ∧ ix = .int .i64 (k : Int) ∧ Hid (∃ q, wr = wq.drewN q)) (fun ix _ => sn' - (intOf ix).toNat)
            case atStart => exact ⟨0, Nat.zero_le _, rfl, ⟨_, rfl⟩⟩
            case round =>
              obtain ⟨k, hk, rfl, HQ2⟩ := hrel
              obtain ⟨q2, rfl⟩ := HQ2.out
              by_cases hlk : k < sn'
              · obtain ⟨b3, o3, s3, t3, rfl, _, hu1, hu2, _, _, hu3⟩ := HAR.out.one k hlk
                obtain ⟨b4, o4, s4, t4, rfl, _, hy1, hy2, _, _, hy3⟩ := HAR'.out.one k hlk
                have hlki : (k : Int) < (sn' : Int) := by omega
                have hup := HUP.out k hlk hu3
                have he : s4 = s3 ∧ t4 = t3 + 1 := by
                  rw [HMAP.out] at hy3
                  have hkl : k < arcs.length := by rw [HAR.out.1]; exact hlk
                  rw [List.getD_eq_getElem?_getD, List.getElem?_map, List.getElem?_eq_getElem hkl] at hy3
                  rw [List.getD_eq_getElem?_getD, List.getElem?_eq_getElem hkl, Option.getD_some] at hu3
                  rw [hu3] at hy3
                  simp at hy3
                  exact ⟨hy3.1.symm, hy3.2.symm⟩
                obtain ⟨rfl, ht4⟩ := he
                have hwt : IntKind.i64.wrap (t3 + 1) = t4 := by rw [IntKind.wrap_i64]; omega
                have e1 : (s4 != s4) = false := by simp
                have e2 : (t4 != t4) = false := by simp
                clear hu3 hy3 ht4 hup
                go_wp2
                go_quiet (fail)
                go_wp2
                go_roundw
                case rel => exact ⟨k + 1, by omega, by go_num, ⟨_, by first | rfl | exact World.drewN_drewN _ _ _⟩⟩
                case measure => simp [intOf]; omega
              · obtain rfl : sn' = k := by omega
                go_wp2
                go_roundw
                case rel => exact ⟨j, by have := HJ.out; omega, by first | rfl | (have := HJ.out; subst this; go_num), drew_more HQ.out⟩
                case measure => have := HJ.out; simp [intOf]; omega
          · obtain rfl : n4 = i := by omega
            go_wp2
            go_ret
            exact ⟨by first | rfl | simp, below_drawn B8 HQ.out⟩
  · have hne : (ge != 0) = true := by simpa using hge
    clear hge
    go_wp2
    go_ret
    exact ⟨by first | rfl | simp, B4⟩

set_option maxRecDepth 100000 in
theorem lifted (os : Os) (started : os.Started) (H : Type) (enc : TypeId × Value → H) :
    ReturnsInHanded {} Try.checked os 7 .any (Rows.dawgHeadSpec.pre6 enc Try.prog Try.f7 Rows.dawgHeadRow.domain false) (Rows.dawgHeadSpec.post enc Try.prog Try.f7 false true false false) := by
  refine returnsInHanded_of_change (C := Try.checked) own started (by kernel_rfl) Try.func7
    (ChangeSpec.witness6 (enc := enc) (C := Try.checked) false ⟨#[], #[.slice none 0 0, .int .u8 0], []⟩ 8 (by kernel_rfl) (by kernel_rfl) (by kernel_rfl) (by kernel_rfl)) ?_
  intro W base args ds gs before hval0 hW hcnd _
  have hval : ∀ (j : Nat) t v, Try.f7.params[j]? = some t → args[j]? = some v → Value.okWide Try.prog W .any base t v := hval0
  have hW' := hW
  obtain ⟨p, q, hA0, hV, rfl, hfz, hnd⟩ := hW
  have hA : DataW.TrodAll enc Try.prog W 0 (fun _ => true) true Try.f7.params.toList args.toList ds p := hA0
  rw [Try.params7] at hA hval
  obtain ⟨v0, vs0, d0, ds0, p0, q0, hargs, rfl, rfl, h0, r0⟩ := trodAll_cons hA
  obtain ⟨v1, vs1, d1, ds1, p1, q1, rfl, rfl, rfl, h1, r1⟩ := trodAll_cons r0
  obtain ⟨rfl, rfl, rfl⟩ := trodAll_nil r1
  obtain rfl : args = #[v0, v1] := by cases args; simp_all
  obtain ⟨rfl, rfl⟩ := trodVars_none hV
  obtain ⟨a0, len0, cap0, rfl⟩ := okWide_slice Try.underlying22 (hval 0 22 v0 rfl rfl)
  have k0 := h0
  have lt0 : ∀ x ∈ p0, x.block < W.heap.size := by obtain ⟨m, hm⟩ := k0; exact DataW.trod_lt m _ _ _ hm
  obtain ⟨x0, w0, n0⟩ : ∃ xs, Ws W a0 len0 cap0 xs ∧ (a0 = none → cap0 = 0) := by
    obtain ⟨fuel, hf⟩ := h0
    rcases Go.Deep.open_int_rows Try.underlying22 Try.underlying33 Try.underlying3 (by kernel_rfl) (by kernel_rfl) hf with ⟨hcs, _⟩ | ⟨x, l, c, A, L, C, Z, hcs, _, hl, hm, _, hr⟩
    · simp [Value.cells] at hcs
      obtain ⟨rfl, rfl, rfl⟩ := hcs
      exact ⟨[], Ws.nil, fun _ => rfl⟩
    · simp [Value.cells] at hcs
      obtain ⟨rfl, rfl, rfl⟩ := hcs
      exact ⟨_, Ws.of_rows hl hm hr, fun h => by cases h⟩
  obtain ⟨a1, rfl, rfl, rfl, w1⟩ := open_int Try.underlying5 (hval 1 5 v1 rfl rfl) h1
  clear hA0 hval0
  refine (walk a0 len0 cap0 x0 a1 W w0 n0 w1).mono fun e W' ⟨he, bel⟩ => ?_
  subst he
  exact ⟨_, rfl, _, _, _, [], _, [], hW', trodAll_mk1 (shut_bool Try.underlying4 _), (trodAll_cons_mk (Below.trod laidOut (by kernel_rfl) (of_decide_eq_true (by kernel_rfl)) k0 bel lt0) (trodAll_cons_mk (shut_int Try.underlying5 w1) trodAll_mk0)), rfl, bel.frame _, fun h => by cases h⟩

theorem over : Rows.dawgHeadRow.holds Try.pinned (OpenSpec.ofChange Rows.dawgHeadSpec) :=
  OpenClaim.holds_of_wide 7 Try.f7 rfl rfl rfl rfl rfl rfl rfl ⟨rfl, rfl, rfl, rfl, rfl⟩ rfl rfl rfl rfl rfl (by kernel_rfl) Try.func7 (by kernel_rfl)
    (of_decide_eq_true (by kernel_rfl)) (by unfold Func.isWrapper; first | (rw [if_pos (by decide +kernel)]; kernel_rfl) | (rw [if_neg (by decide +kernel)]; exact ⟨rfl, rfl⟩))
    (fun os started H enc _ => lifted os started H enc)

/-- the statement -/
theorem proved : Rows.DawgHeadSaid := over
#print axioms proved
end Go.Proofs.Ytgbiobhladeooaa.dawgHead
