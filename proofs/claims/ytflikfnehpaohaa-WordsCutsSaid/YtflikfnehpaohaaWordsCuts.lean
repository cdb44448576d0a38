/- For every list and every number, WordsCuts answers true, and turns nothing that was there. No condition. -/
import Derived.Test.YtflikfnehpaohaaRows
import Derived.Test.YtflikfnehpaohaaWordAwake
import Derived.WalkKit
import Derived.ProofKit
import Derived.OpenShut
import Derived.ShutString
import Derived.ChangeOld
import Derived.Below
import Derived.Deep.Matrix
import Derived.SizedLaws
namespace Go.Proofs.Ytflikfnehpaohaa.wordsCuts
open Go.ChangeShapes Go.WideShapes Go.ChangeAt Go.RowKit
set_option linter.unusedVariables false

theorem own : ownKnob Try.prog.godebug = none := by kernel_rfl
theorem laidOut : laidOutB Try.prog = true := by kernel_rfl

/-- a slice of integers that came in -/
def IsRow (k : IntKind) (w : World) (a : Option Addr) (len cap : Nat) (zs : List Int) : Prop :=
  (a = none ∧ len = 0 ∧ cap = 0 ∧ zs = []) ∨
  ∃ x, a = some x ∧ len ≤ cap ∧ cap ≤ maxLen ∧ zs.length = cap ∧ (∀ i, i < zs.length → w.cell? (x.add i) = some (.int k (zs.getD i 0))) ∧ ∀ n ∈ zs, (Lit.int k n).wf = true

/-- lines, each with its end -/
def wflat (l : List (List Int)) : List Int := l.flatMap fun x => x ++ [10]
theorem wflat_snoc (l : List (List Int)) (z : List Int) : wflat (l ++ [z]) = wflat l ++ z ++ [10] := by
  unfold wflat; rw [List.flatMap_append, List.append_assoc]; simp
theorem wflat_total : ∀ (l : List (List Int)), (wflat l).length = Line.total l
  | [] => rfl
  | x :: l => by
    have ih := wflat_total l
    have e : wflat (x :: l) = x ++ [10] ++ wflat l := by simp [wflat]
    rw [e]
    simp only [List.length_append, List.length_cons, List.length_nil, Line.total, List.map_cons, List.sum_cons]
    unfold Line.total at ih
    omega
theorem wflat_le (b : List Int) (i : Nat) : (wflat ((Line.split b).take i)).length ≤ b.length + 1 := by
  have h1 : wflat (Line.split b) = wflat ((Line.split b).take i) ++ wflat ((Line.split b).drop i) := by
    unfold wflat; rw [← List.flatMap_append, List.take_append_drop]
  have h2 := congrArg List.length h1
  rw [List.length_append, wflat_total (Line.split b)] at h2
  have h3 := Line.split_total b
  omega
theorem split_many (b : List Int) : (Line.split b).length ≤ b.length + 1 := by
  have h3 := Line.split_total b
  have h4 : ∀ l : List (List Int), l.length ≤ Line.total l := by
    intro l
    induction l with
    | nil => simp
    | cons x l ih => unfold Line.total at ih ⊢; simp only [List.length_cons, List.map_cons, List.sum_cons]; omega
  have := h4 (Line.split b)
  omega
theorem split_wflat (b : List Int) (k : Nat) : Line.split (wflat ((Line.split b).take k)) = (Line.split b).take k :=
  Line.split_back _ fun x hx c hc => Line.split_no b x (List.mem_of_mem_take hx) c hc
theorem wcuts (b : List Int) (k : Nat) (hk : k ≤ (Line.split b).length) :
    ((Wl.read b).e ≠ 0 ∧ (Wl.read b).at_ < (k : Int) → (Wl.read (wflat ((Line.split b).take k))).e = (Wl.read b).e ∧ (Wl.read (wflat ((Line.split b).take k))).at_ = (Wl.read b).at_) ∧
    ((Wl.read b).e = 0 ∨ ¬ (Wl.read b).at_ < (k : Int) → (Wl.read (wflat ((Line.split b).take k))).e = 0 ∧ (Wl.read (wflat ((Line.split b).take k))).at_ = -1 ∧
      ((Wl.read b).e = 0 → ∀ w ∈ (Wl.read (wflat ((Line.split b).take k))).ws, w ∈ (Wl.read b).ws)) := by
  have hA : Wl.read (wflat ((Line.split b).take k)) = Wl.readA 0 [] ((Line.split b).take k) := by
    unfold Wl.read; rw [split_wflat]
  have hB : Wl.read b = if (Wl.readA 0 [] ((Line.split b).take k)).e = 0 then Wl.readA (0 + ((Line.split b).take k).length) (Wl.readA 0 [] ((Line.split b).take k)).ws ((Line.split b).drop k) else Wl.readA 0 [] ((Line.split b).take k) := by
    have h := Wl.readA_app ((Line.split b).take k) ((Line.split b).drop k) 0 []
    rw [List.take_append_drop] at h
    exact h
  have hl : ((Line.split b).take k).length = k := by rw [List.length_take]; omega
  rw [hA]
  rcases Wl.readA_at ((Line.split b).take k) 0 [] with ⟨h1, h2⟩ | ⟨h1, h2, j, hj, h3, -⟩
  · rw [if_pos h1, hl, Nat.zero_add] at hB
    refine ⟨fun ⟨h4, h5⟩ => ?_, fun _ => ⟨h1, h2, fun h4 w hw => ?_⟩⟩
    · rw [hB] at h4 h5
      rcases Wl.readA_at ((Line.split b).drop k) k (Wl.readA 0 [] ((Line.split b).take k)).ws with ⟨h6, -⟩ | ⟨-, -, j, -, h7, -⟩
      · exact absurd h6 h4
      · rw [h7] at h5; omega
    · rw [hB] at h4 ⊢
      obtain ⟨-, -, hr, hle⟩ := Wl.readA_ok ((Line.split b).take k) 0 [] List.Pairwise.nil (by simp) h1
      obtain ⟨-, h6, -, -⟩ := Wl.readA_ok ((Line.split b).drop k) k _ hr hle h4
      rw [h6]
      exact ((foldl_ins _ _ hr).2.1 w).2 (.inl hw)
  · rw [if_neg h1] at hB
    rw [← hB] at h1 h3 ⊢
    refine ⟨fun _ => ⟨rfl, rfl⟩, fun h4 => ?_⟩
    rcases h4 with h4 | h4
    · exact absurd h4 h1
    · rw [h3] at h4; omega

/-! ### STEP 1: the walk -/
set_option maxHeartbeats 6400000 in
set_option maxRecDepth 100000 in
theorem walk (a0 : Option Addr) (len0 cap0 : Nat) (z0 : List Int) (a1 : Int) (w : World) (w0 : IsRow .u8 w a0 len0 cap0 z0) (w1 : (Lit.int .u16 a1).wf = true) :
    Calls Try.prog 7 #[.slice a0 len0 cap0, .int .u16 a1] w fun e w' => e = .returned (.bool true) ∧ Below w.heap.size w w' := by
  have hn00 : a0 = none → cap0 = 0 := by
    rcases w0 with ⟨_, _, h, _⟩ | ⟨x, h, _⟩
    · exact fun _ => h
    · intro h'; rw [h] at h'; cases h'
  have HN0 := Lib.hid hn00
  clear hn00
  have hs0 := Sl.of_row w0
  generalize z0.take len0 = xs at hs0
  have hcm0 := hs0.2.2.1
  have hnc0 := hs0.2.1
  unfold maxLen at hcm0
  have HS0 := Lib.hid hs0
  have HLEN0 := Lib.hid hs0.1
  clear hs0 w0
  have ha0 : 0 ≤ a1 ∧ a1 ≤ 65535 := by
    simp [Lit.wf, IntKind.min, IntKind.max, IntKind.signed, IntKind.bits] at w1
    omega
  obtain ⟨ls, hls⟩ : ∃ ls, Line.split xs = ls := ⟨_, rfl⟩
  obtain ⟨⟨ws3, at3, er3⟩, hg3⟩ : ∃ g, Wl.read xs = g := ⟨_, rfl⟩
  obtain ⟨k, hkm⟩ : ∃ k : Nat, k = a1.toNat % (ls.length + 1) := ⟨_, rfl⟩
  have hkl : k ≤ ls.length := by rw [hkm]; have := Nat.mod_lt a1.toNat (show 0 < ls.length + 1 by omega); omega
  obtain ⟨⟨ws4, at4, er4⟩, hg4⟩ : ∃ g, Wl.read (wflat (ls.take k)) = g := ⟨_, rfl⟩
  have hcut := wcuts xs k (by rw [hls]; exact hkl)
  rw [hls, hg3, hg4] at hcut
  simp only at hcut
  have hok : er3 = 0 → Rise ws3 ∧ ws3.length ≤ 300 := fun h => by
    have := Wl.read_ok (b := xs) (by rw [hg3]; exact h)
    rw [hg3] at this
    exact ⟨this.2.2.1, this.2.2.2.1⟩
  have HCUT := Lib.hid hcut
  have HOK := Lib.hid hok
  have HG3 := Lib.hid hg3
  have HG4 := Lib.hid hg4
  have HLS := Lib.hid hls
  have HFL : Hid (∀ i, (wflat (ls.take i)).length ≤ len0 + 1) := fun i => by rw [← hls, ← HLEN0.out]; exact wflat_le xs i
  have HLM : Hid (ls.length ≤ len0 + 1) := by show _ ≤ _; rw [← hls, ← HLEN0.out]; exact split_many xs
  have HMT : Hid (a1.tmod ((ls.length : Int) + 1) = (k : Int)) := by
    show _ = _
    rw [Int.tmod_eq_emod_of_nonneg ha0.1, hkm, Int.natCast_emod, Int.toNat_of_nonneg ha0.1, Int.natCast_add]
    rfl
  have hcv : wrap64 a1 = a1 := by unfold wrap64; omega
  have hcv2 : IntKind.i64.wrap a1 = a1 := by rw [IntKind.wrap_i64]; omega
  clear hcut hok hg3 hg4 hls hkm ha0 w1
  go_enter Try.func7, Try.ntmps7
  go_wp2_with fail
  refine (awake_any _).mono ?_
  rintro e v1 ⟨rfl, B1⟩
  have S1 := Lib.hid (HS0.out.below B1 (Nat.le_refl _))
  by_cases g0 : 2000 < len0
  · have hi0 : (2000 : Int) < (len0 : Int) := by omega
    go_wp2
    go_ret
    exact ⟨rfl, B1⟩
  have hi0 : decide ((2000 : Int) < (len0 : Int)) = false := by simp; omega
  go_wp2_with fail
  refine (split_any a0 len0 cap0 xs _ S1.out HN0.out (by omega)).mono ?_
  rintro e v2 ⟨la, M, lc, rows, rfl, hrows, hbn, -, hb2⟩
  have B2 : Below w.heap.size w v2 := B1.trans (hb2.mono B1.size)
  have S2 := Lib.hid (S1.out.below hb2 (Nat.le_refl _))
  have HROWS := Lib.hid hrows
  have HBN : Hid (bnums rows = ls) := by show _ = _; rw [hbn, HLS.out]
  have HM : Hid (ls.length = M) := by show _ = _; rw [← HBN.out, bnums_length, hrows.1]
  have hM2 : M ≤ 2001 := by have h := HLM.out; rw [HM.out] at h; omega
  have hkM : k ≤ M := by rw [← HM.out]; exact hkl
  have hmt : a1.tmod ((M : Int) + 1) = (k : Int) := by rw [← HM.out]; exact HMT.out
  have hlcm := hrows.2.2.1
  have hMlc := hrows.2.1
  unfold maxLen at hlcm
  clear hrows hbn hb2 hkl
  go_wp2
  go_loopw [8, 9] (fun ov ix wr => ∃ (i : Nat) (a2 : Option Addr) (L c2 : Nat), i ≤ k ∧ ov = .slice a2 L c2 ∧ ix = .int .i64 (i : Int) ∧ L ≤ 2001 ∧ Hid (wr.ownsRow v2.heap.size 5 1 (.slice a2 L c2) L (u8s (wflat (ls.take i)))) ∧ Hid (a2 = none → c2 = 0) ∧ Hid (Below v2.heap.size v2 wr)) (fun _ ix _ => k - (intOf ix).toNat)
  case atStart => exact ⟨0, none, 0, 0, Nat.zero_le _, rfl, rfl, Nat.zero_le _, ⟨rfl, .inl ⟨rfl, rfl⟩⟩, fun _ => rfl, Below.refl _ _⟩
  case round =>
    obtain ⟨i, a2, L, c2, hi, rfl, rfl, hL, HOWN, HNIL, HBW⟩ := hrel
    by_cases hlt : i < k
    · obtain ⟨b1, o1, za, zn, zc, z, rfl, hb1, hgd, hcl, hsl, hz⟩ := (HROWS.out.below HBW.out (Nat.le_refl _)).one i (by omega)
      have hzl : ls.getD i [] = z := by rw [← HBN.out]; exact hz
      have HT : Hid (ls.take (i + 1) = ls.take i ++ [z]) := by
        have hil : i < ls.length := by rw [HM.out]; omega
        show _ = _
        rw [List.take_succ_eq_append_getElem hil, ← hzl]
        simp [hil]
      have hLL : L + zn + 1 ≤ 2001 := by
        have h1 := HFL.out (i + 1)
        rw [HT.out, wflat_snoc] at h1
        have h2 := HOWN.out.1
        unfold u8s at h2
        rw [List.length_map] at h2
        have h3 := hsl.1
        simp only [List.length_append, List.length_cons, List.length_nil] at h1
        omega
      have HSL := Lib.hid hsl
      have hlti : (i : Int) < (k : Int) := by omega
      have hiM : (i : Int) < (M : Int) := by omega
      clear hsl hz hzl hgd
      go_wp2_with (first
        | (at_builtin; refine append_bytes (by rfl) (.tmp 37) (.tmp 41) (by rfl) v2.heap.size _ L (wflat (ls.take i)) (by rfl) HOWN.out za zn zc z (by rfl) HSL.out (L + zn) rfl (by omega) HBW.out.size ?_; intro a3 c3 w3 hown3 hb3 hnil3; have HO3 := Lib.hid hown3; have HB3 : Hid (Below v2.heap.size v2 w3) := HBW.out.trans hb3; clear hown3 hb3 hnil3)
        | (at_builtin; refine append_bytes (by rfl) (.tmp 42) (.tmp 43) (by rfl) v2.heap.size _ (L + zn) (wflat (ls.take i) ++ z) (by rfl) (HO3.out.alloc _) (some ⟨w3.heap.size, 0, none⟩) 1 1 [10] (by rfl) (Sl.newB [10] (by decide) (by unfold maxLen; simp) rfl rfl rfl) (L + zn + 1) rfl (by omega) (by have := HB3.out.size; rw [World.size_alloc]; omega) ?_; intro a4 c4 w4 hown4 hb4 hnil4; have HO4 := Lib.hid hown4; have HN4 := Lib.hid hnil4; have HB4 : Hid (Below v2.heap.size v2 w4) := (HB3.out.alloc HB3.out.size _).trans hb4; clear hown4 hb4 hnil4))
      go_roundw
      case rel => exact ⟨i + 1, a4, L + zn + 1, c4, by omega, rfl, by go_num, by omega, (by have h := HO4.out; rw [← wflat_snoc, ← HT.out] at h; exact h), HN4.out, HB4.out⟩
      case measure => simp [intOf]; omega
    · obtain rfl : i = k := by omega
      have hlti : ¬ (i : Int) < (i : Int) := by omega
      have HLN : (wflat (ls.take i)).length = L := by
        have h := HOWN.out.1; unfold u8s at h; rw [List.length_map] at h; omega
      have HAH : Hid (Sl .u8 wr a2 L c2 (wflat (ls.take i))) := Sl.of_owns HOWN.out (fun z hz => by
        obtain ⟨x, hx, hz⟩ := List.mem_flatMap.1 hz
        rcases List.mem_append.1 hz with hz | hz
        · obtain ⟨q, hq, rfl⟩ := List.mem_iff_getElem.1 (List.mem_of_mem_take hx)
          have hqM : q < M := by rw [← HM.out]; exact hq
          obtain ⟨b1, o1, za, zn, zc, z', rfl, hb1, hgd, hcl, hsl, hz'⟩ := HROWS.out.one q hqM
          rw [HBN.out] at hz'
          refine hsl.2.2.2.1 z ?_
          rw [← hz', List.getD_eq_getElem?_getD, List.getElem?_eq_getElem hq]
          exact hz
        · simp only [List.mem_singleton] at hz; subst hz; decide) HLN
      have HNL : Hid (a2 = none → c2 = 0) := HNIL.out
      have HLL : Hid (L ≤ 1000000) := by show _ ≤ _; omega
      clear HLN HOWN HNIL
      go_wp2_with fail
      refine (wread_is a0 len0 cap0 xs _ _ (S2.out.below HBW.out (Nat.le_refl _)) HN0.out (by omega) HG3.out).mono ?_
      rintro e v3 ⟨p3, n3, c3, xs3, rfl, hws3, hnu3, -, hb3⟩
      have B3 : Hid (Below w.heap.size w v3) := B2.trans ((HBW.out.trans (hb3.mono HBW.out.size)).mono B2.size)
      have XX3 := Lib.hid hws3
      have NX : Hid (nums xs3 = ws3) := hnu3
      have A3 := Lib.hid (HAH.out.below hb3 (Nat.le_refl _))
      clear hb3 hws3 hnu3
      simp only []
      go_wp2_with fail
      refine (wread_is a2 L c2 (wflat (ls.take i)) _ _ A3.out HNL.out HLL.out HG4.out).mono ?_
      rintro e v4 ⟨p4, n4, c4, xs4, rfl, hws4, hnu4, -, hb4⟩
      have B4 : Hid (Below w.heap.size w v4) := B3.out.trans (hb4.mono B3.out.size)
      have XX4 := Lib.hid (XX3.out.below hb4 (Nat.le_refl _))
      have YY4 := Lib.hid hws4
      have NY : Hid (nums xs4 = ws4) := hnu4
      have hnc4 := hws4.2.1
      have hcm4 := hws4.2.2.1
      unfold maxLen at hcm4
      clear hb4 hws4 hnu4
      simp only []
      by_cases he3 : er3 = 0
      · obtain ⟨h4, h5, h6⟩ := HCUT.out.2 (.inl he3)
        obtain ⟨hris, h300⟩ := HOK.out he3
        have HMEM := Lib.hid (h6 he3)
        have HRIS := Lib.hid hris
        have hn3 : n3 ≤ 1000 := by rw [← XX4.out.1, ← nums_length, NX.out]; omega
        subst he3
        subst h4
        subst h5
        clear h6 hris h300
        go_wp2
        go_loopw [16] (fun ix wq => ∃ j : Nat, j ≤ n4 ∧ ix = .int .i64 (j : Int) ∧ Hid (Below v4.heap.size v4 wq)) (fun ix _ => n4 - (intOf ix).toNat)
        case atStart => exact ⟨0, Nat.zero_le _, rfl, Below.refl _ _⟩
        case round =>
          obtain ⟨j, hj, rfl, HBQ⟩ := hrel
          by_cases hjn : j < n4
          · obtain ⟨b1, o1, ya, yn, yc, y, rfl, hb1, hgd, hcl, hsl, hz⟩ := (YY4.out.below HBQ.out (Nat.le_refl _)).one j hjn
            have hin : y ∈ ws3 := by
              refine HMEM.out y ?_
              rw [← NY.out, ← hz, List.getD_eq_getElem?_getD, List.getElem?_eq_getElem (by rw [nums_length, YY4.out.1]; exact hjn), Option.getD_some]
              exact List.getElem_mem _
            have HIN : Hid (decide (y ∈ nums xs3) = true) := by show _ = _; rw [NX.out]; exact decide_eq_true hin
            have HSL := Lib.hid hsl
            obtain ⟨q, hq⟩ : ∃ q, cnt (nums xs3) y = q := ⟨_, rfl⟩
            have HQ := Lib.hid hq
            have hjni : (j : Int) < (n4 : Int) := by omega
            clear hsl hz hgd hin hq
            go_wp2_with fail
            refine (find_is p3 ya n3 yn c3 yc xs3 y q true _ (XX4.out.below HBQ.out (Nat.le_refl _)) HSL.out (by rw [NX.out]; exact HRIS.out) HQ.out HIN.out hn3).mono ?_
            rintro e w6 ⟨rfl, hb6⟩
            have HB6 : Hid (Below v4.heap.size v4 w6) := HBQ.out.trans (hb6.mono HBQ.out.size)
            clear hb6
            go_wp2
            go_roundw
            case rel => exact ⟨j + 1, by omega, by go_num, HB6.out⟩
            case measure => simp [intOf]; omega
          · have hjni : ¬ (j : Int) < (n4 : Int) := by omega
            go_wp2
            go_ret
            exact ⟨rfl, B4.out.trans (HBQ.out.mono B4.out.size)⟩
      · have hne : (er3 != 0) = true := by simpa using he3
        have hne0 : (er3 == 0) = false := by simpa using he3
        by_cases hat : at3 < (i : Int)
        · obtain ⟨h4, h5⟩ := HCUT.out.1 ⟨he3, hat⟩
          subst h4
          subst h5
          have hr1 : (er4 == er4) = true := by simp
          have hr2 : (at4 == at4) = true := by simp
          go_wp2
          go_ret
          exact ⟨rfl, B4.out⟩
        · obtain ⟨h4, h5, -⟩ := HCUT.out.2 (.inr (by omega))
          subst h4
          subst h5
          go_wp2
          go_loopw [16] (fun ix wq => ix = .int .i64 0 ∧ wq = v4) (fun ix _ => 0)
          case atStart => exact ⟨rfl, rfl⟩
          case round =>
            obtain ⟨rfl, rfl⟩ := hrel
            rcases Nat.eq_zero_or_pos n4 with h0 | hp
            · subst h0
              go_wp2
              go_ret
              exact ⟨rfl, B4.out⟩
            · have hpi : (0 : Int) < (n4 : Int) := by omega
              go_wp2
              go_ret
              exact ⟨rfl, B4.out⟩

set_option maxRecDepth 100000 in
theorem lifted (os : Os) (started : os.Started) (H : Type) (enc : TypeId × Value → H) :
    ReturnsInHanded {} Try.checked os 7 .any (Rows.wordsCutsSpec.pre6 enc Try.prog Try.f7 Rows.wordsCutsRow.domain false) (Rows.wordsCutsSpec.post enc Try.prog Try.f7 false true false false) := by
  refine returnsInHanded_of_change (C := Try.checked) own started (by kernel_rfl) Try.func7
    (ChangeSpec.witness6 (enc := enc) (C := Try.checked) false ⟨#[], #[.slice none 0 0, .int .u16 0], []⟩ 8 (by kernel_rfl) (by kernel_rfl) (by kernel_rfl) (by kernel_rfl)) ?_
  intro W base args ds gs before hval0 hW hcnd _
  have hval : ∀ (j : Nat) t v, Try.f7.params[j]? = some t → args[j]? = some v → Value.okWide Try.prog W .any base t v := hval0
  have hW' := hW
  obtain ⟨p, q, hA0, hV, rfl, hfz, hnd⟩ := hW
  have hA : DataW.TrodAll enc Try.prog W 0 (fun _ => true) true Try.f7.params.toList args.toList ds p := hA0
  rw [Try.params7] at hA hval
  obtain ⟨v0, vs0, d0, ds0, p0, q0, hargs, rfl, rfl, h0, r0⟩ := trodAll_cons hA
  obtain ⟨v1, vs1, d1, ds1, p1, q1, rfl, rfl, rfl, h1, r1⟩ := trodAll_cons r0
  obtain ⟨rfl, rfl, rfl⟩ := trodAll_nil r1
  obtain rfl : args = #[v0, v1] := by cases args; simp_all
  obtain ⟨rfl, rfl⟩ := trodVars_none hV
  obtain ⟨a0, len0, cap0, rfl⟩ := okWide_slice Try.underlying22 (hval 0 22 v0 rfl rfl)
  have k0 := h0
  have lt0 : ∀ x ∈ p0, x.block < W.heap.size := by obtain ⟨m, hm⟩ := k0; exact DataW.trod_lt m _ _ _ hm
  obtain ⟨z0, w0⟩ : ∃ zs, IsRow .u8 W a0 len0 cap0 zs := by
    obtain ⟨fuel, hf⟩ := h0
    rcases open_ints Try.underlying22 Try.underlying5 (by kernel_rfl) hf with ⟨hcs, _⟩ | ⟨x, l, c, zs, hcs, _, hl, hm, hz, _, hcell, hwz⟩
    · simp [Value.cells] at hcs
      obtain ⟨rfl, rfl, rfl⟩ := hcs
      exact ⟨[], .inl ⟨rfl, rfl, rfl, rfl⟩⟩
    · simp [Value.cells] at hcs
      obtain ⟨rfl, rfl, rfl⟩ := hcs
      exact ⟨zs, .inr ⟨_, rfl, hl, hm, by simpa using hz, hcell, hwz⟩⟩
  obtain ⟨a1, rfl, rfl, rfl, w1⟩ := open_int Try.underlying46 (hval 1 46 v1 rfl rfl) h1
  clear hA0 hval0
  refine (walk a0 len0 cap0 z0 a1 W w0 w1).mono fun e W' ⟨he, bel⟩ => ?_
  subst he
  exact ⟨_, rfl, _, _, _, [], _, [], hW', trodAll_mk1 (shut_bool Try.underlying4 _), (trodAll_cons_mk (Below.trod laidOut (by kernel_rfl) (of_decide_eq_true (by kernel_rfl)) k0 bel lt0) (trodAll_cons_mk (shut_int Try.underlying46 w1) trodAll_mk0)), rfl, bel.frame _, fun h => by cases h⟩

theorem over : Rows.wordsCutsRow.holds Try.pinned (OpenSpec.ofChange Rows.wordsCutsSpec) :=
  OpenClaim.holds_of_wide 7 Try.f7 rfl rfl rfl rfl rfl rfl rfl ⟨rfl, rfl, rfl, rfl, rfl⟩ rfl rfl rfl rfl rfl (by kernel_rfl) Try.func7 (by kernel_rfl)
    (of_decide_eq_true (by kernel_rfl)) (by unfold Func.isWrapper; first | (rw [if_pos (by decide +kernel)]; kernel_rfl) | (rw [if_neg (by decide +kernel)]; exact ⟨rfl, rfl⟩))
    (fun os started H enc _ => lifted os started H enc)

/-- the statement -/
theorem proved : Rows.WordsCutsSaid := over
#print axioms proved
end Go.Proofs.Ytflikfnehpaohaa.wordsCuts
