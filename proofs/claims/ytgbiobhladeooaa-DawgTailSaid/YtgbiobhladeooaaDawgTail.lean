/- For all words, DawgTail answers true, and turns nothing that was there. No condition. -/
import Derived.Test.YtgbiobhladeooaaRows
import Derived.Test.YtgbiobhladeooaaDawgAwake
import Derived.Test.YtgbiobhladeooaaDawgProg
import Derived.Test.YtgbiobhladeooaaDawgDef
import Derived.Test.YtgbiobhladeooaaPackA
import Derived.Test.YtgbiobhladeooaaDawgLists
import Derived.Test.YtgbiobhladeooaaPackN
import Derived.Test.YtgbiobhladeooaaOrderWalkA
import Derived.Test.YtgbiobhladeooaaOrderWalkB
import Derived.Test.YtgbiobhladeooaaOrderWalkE
import Derived.WalkKit
import Derived.ProofKit
import Derived.OpenShut
import Derived.ShutString
import Derived.ChangeOld
import Derived.Below
import Derived.Deep.Matrix
import Derived.SizedLaws
namespace Go.Proofs.Ytgbiobhladeooaa.dawgTail
open Go.ChangeShapes Go.WideShapes Go.ChangeAt Go.RowKit
set_option linter.unusedVariables false

theorem own : ownKnob Try.prog.godebug = none := by kernel_rfl
theorem laidOut : laidOutB Try.prog = true := by kernel_rfl

/-- a slice of integers that came in -/
def IsRow (k : IntKind) (w : World) (a : Option Addr) (len cap : Nat) (zs : List Int) : Prop :=
  (a = none ∧ len = 0 ∧ cap = 0 ∧ zs = []) ∨
  ∃ x, a = some x ∧ len ≤ cap ∧ cap ≤ maxLen ∧ zs.length = cap ∧ (∀ i, i < zs.length → w.cell? (x.add i) = some (.int k (zs.getD i 0))) ∧ ∀ n ∈ zs, (Lit.int k n).wf = true

open Tri Daw
theorem dmade_ok {ws : List (List Int)} (h : (dmade ws).2 = 0) : ws.length ≤ 300 ∧ (∀ z ∈ ws, Wl.fit z = true) ∧ Rise ws ∧ dmade ws = (dmake ws, 0) := by
  unfold dmade at h ⊢
  by_cases he : (Wl.write ws).2 = 0
  · rw [if_pos he]
    rcases Wl.write_err ws with ⟨_, h1, h2, h3, _⟩ | ⟨h1, _⟩
    · exact ⟨h1, h2, h3, rfl⟩
    · exact absurd he h1
  · rw [if_neg he] at h; exact absurd h he
theorem dmade_of {ws : List (List Int)} (h1 : ws.length ≤ 300) (h2 : ∀ z ∈ ws, Wl.fit z = true) (h3 : Rise ws) : dmade ws = (dmake ws, 0) := by
  have he : (Wl.write ws).2 = 0 := by
    unfold Wl.write
    rw [if_neg (by omega), if_pos ⟨List.all_eq_true.2 h2, Wl.rises_iff.2 h3⟩]
  unfold dmade
  rw [if_pos he]
theorem short_fit {ws : List (List Int)} (h : ∀ z ∈ ws, Wl.fit z = true) : Tri.Short ws := fun z hz => (Wl.fit_parts (h z hz)).2.1
theorem fit_tail {z : List Int} (h : Wl.fit z = true) (hl : z.length ≤ 19) : Wl.fit (z ++ [1114111]) = true := by
  have hne := (Wl.fit_parts h).1
  unfold Wl.fit at *
  simp only [Bool.and_eq_true, decide_eq_true_eq, Bool.not_eq_true', decide_eq_false_iff_not] at h ⊢
  obtain ⟨⟨⟨h1, h2⟩, h3⟩, h4⟩ := h
  refine ⟨⟨⟨by simp, by simp; omega⟩, ?_⟩, ?_⟩
  · rw [List.all_append, h3]; decide
  · cases z with
    | nil => exact absurd rfl hne
    | cons x z => exact h4
/-- the first words may have that sign behind them -/
def Tl (ws : List (List Int)) (i : Nat) : Prop := ∀ z ∈ ws.take i, z.length ≤ 19 ∧ (1114111 : Int) ∉ z
theorem Tl.next {ws : List (List Int)} {i : Nat} {z : List Int} (h : Tl ws i) (hi : i < ws.length) (hz : ws.getD i [] = z) (hl : z.length ≤ 19) (hn : (1114111 : Int) ∉ z) : Tl ws (i + 1) := by
  intro x hx
  have e : ws.take (i + 1) = ws.take i ++ [z] := by rw [List.take_succ_eq_append_getElem hi, ← hz]; simp [hi]
  rw [e] at hx
  rcases List.mem_append.1 hx with hx | hx
  · exact h x hx
  · rw [List.mem_singleton.1 hx]; exact ⟨hl, hn⟩
theorem map_next {ws : List (List Int)} {i : Nat} {z : List Int} (f : List Int → List Int) (hi : i < ws.length) (hz : ws.getD i [] = z) : (ws.take (i + 1)).map f = (ws.take i).map f ++ [f z] := by
  have e : ws.take (i + 1) = ws.take i ++ [z] := by rw [List.take_succ_eq_append_getElem hi, ← hz]; simp [hi]
  rw [e, List.map_append]; rfl
/-- a word's first signs are others -/
def Oth (z : List Int) (k : Nat) : Prop := (1114111 : Int) ∉ z.take k
theorem Oth.next {z : List Int} {k : Nat} {x : Int} (h : Oth z k) (hk : k < z.length) (hx : z.getD k 0 = x) (hn : x ≠ 1114111) : Oth z (k + 1) := by
  intro hm
  have e : z.take (k + 1) = z.take k ++ [x] := by rw [List.take_succ_eq_append_getElem hk, ← hx]; simp [hk]
  rw [e] at hm
  rcases List.mem_append.1 hm with hm | hm
  · exact h hm
  · exact hn (List.mem_singleton.1 hm).symm
theorem size_alloc (w : World) (o : Obj) : (w.alloc o).heap.size = w.heap.size + 1 := by unfold World.alloc; simp
theorem Sl.one_new {w : World} {t : TypeId} {B : Nat} (z : Int) (hw : (Lit.int .i64 z).wf = true) (hB : B = w.heap.size) : Sl .i64 (w.alloc (.cells #[.int .i64 z] t)) (some ⟨B, 0, none⟩) 1 1 [z] :=
  Sl.newJ (t := t) [z] (fun x hx => by rw [List.mem_singleton.1 hx]; exact hw) (by simp [maxLen]) hB rfl rfl

/-! ### STEP 1: the walk -/
set_option maxHeartbeats 6400000 in
set_option maxRecDepth 100000 in
theorem walk (a0 : Option Addr) (len0 cap0 : Nat) (x0 : List Wd) (w : World) (w0 : Ws w a0 len0 cap0 x0) (n0 : a0 = none → cap0 = 0) :
    Calls Try.prog 6 #[.slice a0 len0 cap0] w fun e w' => e = .returned (.bool true) ∧ Below w.heap.size w w' := by
  have hcm0 := w0.2.2.1
  have hnc0 := w0.2.1
  unfold maxLen at hcm0
  have HX0 := Lib.hid w0
  have HXN0 := Lib.hid n0
  clear w0 n0
  obtain ⟨⟨gl, ge⟩, hg⟩ : ∃ g, dmade (nums x0) = g := ⟨_, rfl⟩
  have HG := Lib.hid hg
  clear hg
  go_enter Try.func6, Try.ntmps6
  go_wp2_with fail
  refine (awake_any _).mono ?_
  rintro e v1 ⟨rfl, B1⟩
  have X1 := Lib.hid (HX0.out.below B1 (Nat.le_refl _))
  go_wp2_with fail
  refine (dmake_is a0 len0 cap0 x0 _ _ X1.out HXN0.out HG.out).mono ?_
  rintro e wo ⟨p4, n4, c4, y4, rfl, hs4, hst4, -, hb4⟩
  have B4 := B1.trans (hb4.mono B1.size)
  have X4 := Lib.hid (X1.out.below hb4 (Nat.le_refl _))
  have HN4 : Hid (gl.length = n4) := by
    have h : sts y4 = gl := hst4
    rw [← h, sts_length]; exact hs4.1
  clear hb4 hs4 hst4
  simp only []
  go_wp2_with fail
  refine (few_of 100 100 a0 len0 cap0 x0 _ rfl X4.out).mono ?_
  rintro e v3 ⟨he, rfl⟩
  rcases he with rfl | ⟨rfl, -, hn60⟩
  · go_wp2
    go_ret
    exact ⟨rfl, B4⟩
  by_cases hge : ge = 0
  · subst hge
    by_cases hz0 : len0 = 0
    · subst hz0
      go_wp2
      go_ret
      exact ⟨rfl, B4⟩
    have hz2 : ((len0 : Int) == 0) = false := by simpa using hz0
    have HOK := Lib.hid (dmade_ok (ws := nums x0) (by rw [HG.out]))
    have HSH : Hid (Tri.Short (nums x0)) := short_fit HOK.out.2.1
    have HRI : Hid (Rise (nums x0)) := HOK.out.2.2.1
    have HLX : Hid ((nums x0).length = len0) := by show _ = _; rw [nums_length, X4.out.1]
    have HKN : Hid ((kinds (nums x0)).length = n4) := by
      show _ = _
      have h := HOK.out.2.2.2
      rw [HG.out] at h
      have h2 : gl = dmake (nums x0) := congrArg Prod.fst h
      rw [← dmake_length, ← h2, HN4.out]
    have hn4 : n4 ≤ 2001 := by have h := begs_le (nums x0); have h2 := kinds_le (nums x0); rw [HLX.out] at h; rw [HKN.out] at h2; omega
    have HNE : Hid (nums x0 ≠ []) := by
      intro h
      have h1 := HLX.out
      rw [h] at h1; exact hz0 h1.symm
    clear HG HN4 hz0
    go_wp2
    go_loopw [6, 7] (fun lv ix wn => ∃ (i : Nat) (a1 : Option Addr) (c1 : Nat) (outs : List Wd), i ≤ len0 ∧ lv = .slice a1 i c1 ∧ ix = .int .i64 (i : Int) ∧ Hid (Ml wo.heap.size wn a1 i c1 outs) ∧ Hid (nums outs = ((nums x0).take i).map fun w => w ++ [1114111]) ∧ Hid (Tl (nums x0) i) ∧ Hid (Below wo.heap.size wo wn)) (fun _ ix _ => len0 - (intOf ix).toNat)
    case atStart => exact ⟨0, none, 0, [], Nat.zero_le _, rfl, rfl, Ml.start _ _, rfl, (fun z hz => by simp at hz), Below.refl _ _⟩
    case round =>
      obtain ⟨wn, hwn⟩ : ∃ x, x = wr := ⟨_, rfl⟩
      subst hwn
      obtain ⟨i, a1, c1, outs, hi, rfl, rfl, HML, HNU, HTL, HW1⟩ := hrel
      by_cases hlt : i < len0
      · obtain ⟨b1, o1, za, zn, zc, z, rfl, hb1, hgd, hclw, hslw, hz⟩ := X4.out.one i hlt
        have hcl : wn.cell? ⟨b1, o1 + i, none⟩ = some (.slice za zn zc) := by rw [HW1.out.cell (p := ⟨b1, o1 + i, none⟩) hb1]; exact hclw
        have hzm : z ∈ nums x0 := by rw [← hz, List.getD_eq_getElem?_getD, List.getElem?_eq_getElem (by rw [HLX.out]; exact hlt), Option.getD_some]; exact List.getElem_mem _
        have hfz := HOK.out.2.1 z hzm
        have hz0 : 0 < zn := by rw [← hslw.1]; exact List.length_pos_iff.2 (Wl.fit_parts hfz).1
        have hz20 : zn ≤ 20 := by rw [← hslw.1]; exact (Wl.fit_parts hfz).2.1
        obtain ⟨zb, zo, rfl, hzb, hzc⟩ := hslw.at hz0
        have hznc := hslw.2.1
        have hzcm := hslw.2.2.1
        unfold maxLen at hzcm
        have HZL := Lib.hid hslw.1
        have HSL : Hid (Sl .i64 wn (some ⟨zb, zo, none⟩) zn zc z) := hslw.below HW1.out (Nat.le_refl _)
        have HZ := Lib.hid hz
        have hlti : (i : Int) < (len0 : Int) := by omega
        have HHB := Lib.hid hb1
        clear hgd hclw hslw hz hzm hb1 hzb hzc hfz
        by_cases h19 : 19 < zn
        · have h19i : (19 : Int) < (zn : Int) := by omega
          have B9 := B4.trans (HW1.out.mono B4.size)
          go_wp2
          go_ret
          exact ⟨rfl, B9⟩
        have h19i : ¬ ((19 : Int) < (zn : Int)) := by omega
        go_wp2
        go_loopw [8] (fun kx w3 => ∃ (k : Nat), k ≤ zn ∧ kx = .int .i64 (k : Int) ∧ Hid (Oth z k) ∧ w3 = wn) (fun kx _ => zn - (intOf kx).toNat)
        case atStart => exact ⟨0, Nat.zero_le _, rfl, (by show (1114111 : Int) ∉ _; simp), rfl⟩
        case round =>
          obtain ⟨k, hk, rfl, HOT, hwr⟩ := hrel
          obtain rfl := hwr
          by_cases hkl : k < zn
          · obtain ⟨b3, o3, he3, hb3, hc3⟩ := HSL.out.at (by omega)
            simp only [Option.some.injEq, Addr.mk.injEq, and_true] at he3
            obtain ⟨rfl, rfl⟩ := he3
            obtain ⟨x, hx⟩ : ∃ x, z.getD k 0 = x := ⟨_, rfl⟩
            have hck := hc3 k hkl
            rw [hx] at hck
            have hkli : (k : Int) < (zn : Int) := by omega
            clear hb3 hc3
            by_cases hxm : x = 1114111
            · have hxd : (x == 1114111) = true := by simpa using hxm
              have B9 := B4.trans (HW1.out.mono B4.size)
              clear hxm hx
              go_wp2
              go_ret
              exact ⟨rfl, B9⟩
            · have hxd : (x == 1114111) = false := by simpa using hxm
              have HO2 := Lib.hid (HOT.out.next (by rw [HZL.out]; exact hkl) hx hxm)
              clear hxm hx
              go_wp2
              go_roundw
              case rel => exact ⟨k + 1, by omega, by go_num, HO2.out, by first | rfl | trivial⟩
              case measure => simp [intOf]; omega
          · obtain rfl : zn = k := by omega
            have HTL2 : Hid (Tl (nums x0) (i + 1)) := by
              refine HTL.out.next (by rw [HLX.out]; exact hlt) HZ.out (by rw [HZL.out]; omega) ?_
              have h := HOT.out
              unfold Oth at h
              rw [List.take_of_length_le (by rw [HZL.out]; exact Nat.le_refl _)] at h; exact h
            have HBN : Hid (Below wr.heap.size wr (wr.alloc (.cells #[] 3))) := (Below.refl _ wr).alloc (Nat.le_refl _) _
            have hcl2 : (wr.alloc (.cells #[] 3)).cell? ⟨b1, o1 + i, none⟩ = some (.slice (some ⟨zb, zo, none⟩) zn zc) := by
              have h1 := HHB.out
              have h2 := HW1.out.size
              rw [HBN.out.cell (p := ⟨b1, o1 + i, none⟩) (by show b1 < _; omega)]; exact hcl
            go_wp2_with first
              | (at_builtin; refine append_ints rfl (.tmp 62) (.tmp 66) (by rfl) wr.heap.size _ 0 [] (by rfl) (owns_none_ints wr) (some ⟨zb, zo, none⟩) zn zc z (by rfl) (HSL.out.below HBN.out (Nat.le_refl _)) (fun h => by cases h) zn (by omega) (by omega) (by rw [size_alloc]; omega) ?_
                 intro a5 c5 w5 hown5 hb5 hnil5
                 have HO5 := Lib.hid hown5
                 have HB5 : Hid (Below wr.heap.size wr w5) := HBN.out.trans (hb5)
                 clear hown5 hb5 hnil5)
              | (at_builtin; refine append_ints rfl (.tmp 67) (.tmp 68) (by rfl) wr.heap.size _ zn ([] ++ z) (by rfl) (World.ownsRow.alloc HO5.out _) (some ⟨w5.heap.size, 0, none⟩) 1 1 [1114111] (by rfl) (Sl.one_new 1114111 (by decide) rfl) (fun h => by cases h) (zn + 1) rfl (by omega) (by rw [size_alloc]; have := HB5.out.size; omega) ?_
                 intro a6 c6 w6 hown6 hb6 hnil6
                 have HO6 := Lib.hid hown6
                 have HB6 : Hid (Below wr.heap.size wr w6) := (HB5.out.alloc HB5.out.size _).trans hb6
                 have HM6 := Lib.hid ((HML.out.below HB6.out).below ((Below.refl _ w6).alloc (Nat.le_refl _) (.cells #[.slice a6 (zn + 1) c6] 33)))
                 have HG6 : Hid (Wd.Good w6 (Wd.mk a6 (zn + 1) c6 ([] ++ z ++ [1114111]))) := Sl.of_owns HO6.out (by
                   intro x hx
                   rcases List.mem_append.1 hx with hx | hx
                   · exact HSL.out.2.2.2.1 x (by simpa using hx)
                   · rw [List.mem_singleton.1 hx]; decide) (by simp [HZL.out])
                 clear hown6 hb6 hnil6)
              | (at_builtin; refine append_words_g rfl (.tmp 61) (.tmp 70) (by rfl) wo.heap.size _ i outs (by rfl) HM6.out.row (some ⟨w6.heap.size, 0, none⟩) 1 1 [Wd.mk a6 (zn + 1) c6 ([] ++ z ++ [1114111])] (by rfl) (Ws.newc [Wd.mk a6 (zn + 1) c6 ([] ++ z ++ [1114111])] (by intro x hx; rw [List.mem_singleton.1 hx]; exact HG6.out) (by simp [maxLen]) rfl rfl rfl) (fun h => by cases h) (i + 1) rfl (by omega) (by rw [size_alloc]; have := HB6.out.size; have := HW1.out.size; omega) ?_
                 intro a7 c7 w7 hown7 hb7 hg7 hnil7
                 have HM7 := Lib.hid (HM6.out.add (Wd.mk a6 (zn + 1) c6 ([] ++ z ++ [1114111])) (World.ownsRow.alloc (own_lower HO6.out HW1.out.size) _) HG6.out.2.2.2.1 HG6.out.1 hown7 hg7 hnil7)
                 have HB7 : Hid (Below wo.heap.size wo w7) := ((HW1.out.trans (HB6.out.mono HW1.out.size)).alloc ((HW1.out.trans (HB6.out.mono HW1.out.size))).size _).trans hb7
                 clear hown7 hb7 hg7 hnil7)
            go_roundw
            case rel =>
              refine ⟨i + 1, a7, c7, outs ++ [Wd.mk a6 (zn + 1) c6 ([] ++ z ++ [1114111])], by omega, rfl, by go_num, HM7.out, ?_, HTL2.out, HB7.out⟩
              show _ = _
              rw [nums_app, HNU.out, map_next (fun w => w ++ [1114111]) (by rw [HLX.out]; exact hlt) HZ.out]
              rfl
            case measure => simp [intOf]; omega
      · obtain rfl : len0 = i := by omega
        have HNT : Hid (nums outs = (nums x0).map fun w => w ++ [1114111]) := by
          have h := HNU.out
          rw [List.take_of_length_le (by rw [HLX.out]; exact Nat.le_refl _)] at h; exact h
        have HALL : Hid (∀ z ∈ nums x0, z.length ≤ 19 ∧ (1114111 : Int) ∉ z) := by
          have h := HTL.out
          unfold Tl at h
          rw [List.take_of_length_le (by rw [HLX.out]; exact Nat.le_refl _)] at h; exact h
        obtain ⟨tl, htl⟩ : ∃ q, tail (nums x0) 1114111 = q := ⟨_, rfl⟩
        have HTAIL : Hid (srt (nums outs) = tl) := by show _ = _; rw [HNT.out, ← htl]; rfl
        have HFT : Hid (∀ z ∈ tl, Wl.fit z = true) := fun z hz => by
          rw [← htl] at hz
          obtain ⟨w, hw, rfl⟩ := mem_tail.1 hz
          exact fit_tail (HOK.out.2.1 w hw) (HALL.out w hw).1
        have HLT : Hid (tl.length ≤ 300) := by
          have h := srt_length (nums outs)
          rw [HTAIL.out, HNT.out, List.length_map, HLX.out] at h
          show _ ≤ _
          omega
        have HMD : Hid (dmade tl = (dmake tl, 0)) := dmade_of HLT.out HFT.out (by rw [← HTAIL.out]; exact rise_srt _)
        have HCNT : Hid ((kinds tl).length = n4 + 1) := by
          show _ = _
          have h := dtail (ws := nums x0) (M := 1114111) HSH.out (by rw [htl]; exact short_fit HFT.out) HRI.out HNE.out (fun w hw => (HALL.out w hw).2)
          rw [htl, HKN.out] at h; exact h
        have HSHW : Hid (Short outs) := fun x hx => by
          have h1 := HML.out.lens x hx
          have h2 : x.zs ∈ nums outs := List.mem_map.2 ⟨x, hx, rfl⟩
          rw [HNT.out] at h2
          obtain ⟨w, hw, e⟩ := List.mem_map.1 h2
          have h3 := (HALL.out w hw).1
          rw [← e] at h1
          simp at h1
          omega
        clear htl
        go_wp2_with fail
        refine (sort_any a1 len0 c1 outs wn HML.out.words HSHW.out (by omega)).mono ?_
        rintro e v7 ⟨p7, n7, c7, y7, rfl, hs7, hn7, hf7, -, hb7⟩
        have B7 := B4.trans ((HW1.out.trans (hb7.mono HW1.out.size)).mono B4.size)
        have Y7 := Lib.hid hs7
        have N7 : Hid (nums y7 = tl) := by show _ = _; rw [hn7, HTAIL.out]
        have F7 := Lib.hid hf7
        clear hs7 hn7 hf7 hb7
        go_wp2_with fail
        refine (dmake_is p7 n7 c7 y7 (dmake tl, 0) _ Y7.out F7.out.nil (by rw [N7.out]; exact HMD.out)).mono ?_
        rintro e v8 ⟨p8, n8, c8, y8, rfl, hs8, hst8, -, hb8⟩
        have B8 := B7.trans (hb8.mono B7.size)
        obtain rfl : n8 = n4 + 1 := by
          have e : sts y8 = dmake tl := hst8
          rw [← HCNT.out, ← dmake_length, ← e, sts_length, hs8.1]
        have hw8 : IntKind.i64.wrap ((n4 : Int) + 1) = (n4 : Int) + 1 := by rw [IntKind.wrap_i64]; omega
        have he8 : (((n4 + 1 : Nat) : Int) == (n4 : Int) + 1) = true := by simp
        clear hb8 hs8 hst8
        simp only []
        go_wp2
        go_ret
        exact ⟨by first | rfl | simp, B8⟩
  · have hne : (ge != 0) = true := by simpa using hge
    clear hge
    go_wp2
    go_ret
    exact ⟨by first | rfl | simp, B4⟩

set_option maxRecDepth 100000 in
theorem lifted (os : Os) (started : os.Started) (H : Type) (enc : TypeId × Value → H) :
    ReturnsInHanded {} Try.checked os 6 .any (Rows.dawgTailSpec.pre6 enc Try.prog Try.f6 Rows.dawgTailRow.domain false) (Rows.dawgTailSpec.post enc Try.prog Try.f6 false true false false) := by
  refine returnsInHanded_of_change (C := Try.checked) own started (by kernel_rfl) Try.func6
    (ChangeSpec.witness6 (enc := enc) (C := Try.checked) false ⟨#[], #[.slice none 0 0], []⟩ 8 (by kernel_rfl) (by kernel_rfl) (by kernel_rfl) (by kernel_rfl)) ?_
  intro W base args ds gs before hval0 hW hcnd _
  have hval : ∀ (j : Nat) t v, Try.f6.params[j]? = some t → args[j]? = some v → Value.okWide Try.prog W .any base t v := hval0
  have hW' := hW
  obtain ⟨p, q, hA0, hV, rfl, hfz, hnd⟩ := hW
  have hA : DataW.TrodAll enc Try.prog W 0 (fun _ => true) true Try.f6.params.toList args.toList ds p := hA0
  rw [Try.params6] at hA hval
  obtain ⟨v0, vs0, d0, ds0, p0, q0, hargs, rfl, rfl, h0, r0⟩ := trodAll_cons hA
  obtain ⟨rfl, rfl, rfl⟩ := trodAll_nil r0
  obtain rfl : args = #[v0] := by cases args; simp_all
  obtain ⟨rfl, rfl⟩ := trodVars_none hV
  obtain ⟨a0, len0, cap0, rfl⟩ := okWide_slice Try.underlying22 (hval 0 22 v0 rfl rfl)
  have k0 := h0
  have lt0 : ∀ x ∈ p0, x.block < W.heap.size := by obtain ⟨m, hm⟩ := k0; exact DataW.trod_lt m _ _ _ hm
  obtain ⟨x0, w0, n0⟩ : ∃ xs, Ws W a0 len0 cap0 xs ∧ (a0 = none → cap0 = 0) := by
    obtain ⟨fuel, hf⟩ := h0
    rcases Go.Deep.open_int_rows Try.underlying22 Try.underlying33 Try.underlying3 (by kernel_rfl) (by kernel_rfl) hf with ⟨hcs, _⟩ | ⟨x, l, c, A, L, C, Z, hcs, _, hl, hm, _, hr⟩
    · simp [Value.cells] at hcs
      obtain ⟨rfl, rfl, rfl⟩ := hcs
      exact ⟨[], Ws.nil, fun _ => rfl⟩
    · simp [Value.cells] at hcs
      obtain ⟨rfl, rfl, rfl⟩ := hcs
      exact ⟨_, Ws.of_rows hl hm hr, fun h => by cases h⟩
  clear hA0 hval0
  refine (walk a0 len0 cap0 x0 W w0 n0).mono fun e W' ⟨he, bel⟩ => ?_
  subst he
  exact ⟨_, rfl, _, _, _, [], _, [], hW', trodAll_mk1 (shut_bool Try.underlying4 _), (trodAll_cons_mk (Below.trod laidOut (by kernel_rfl) (of_decide_eq_true (by kernel_rfl)) k0 bel lt0) trodAll_mk0), rfl, bel.frame _, fun h => by cases h⟩

theorem over : Rows.dawgTailRow.holds Try.pinned (OpenSpec.ofChange Rows.dawgTailSpec) :=
  OpenClaim.holds_of_wide 6 Try.f6 rfl rfl rfl rfl rfl rfl rfl ⟨rfl, rfl, rfl, rfl, rfl⟩ rfl rfl rfl rfl rfl (by kernel_rfl) Try.func6 (by kernel_rfl)
    (of_decide_eq_true (by kernel_rfl)) (by unfold Func.isWrapper; first | (rw [if_pos (by decide +kernel)]; kernel_rfl) | (rw [if_neg (by decide +kernel)]; exact ⟨rfl, rfl⟩))
    (fun os started H enc _ => lifted os started H enc)

/-- the statement -/
theorem proved : Rows.DawgTailSaid := over
#print axioms proved
end Go.Proofs.Ytgbiobhladeooaa.dawgTail
