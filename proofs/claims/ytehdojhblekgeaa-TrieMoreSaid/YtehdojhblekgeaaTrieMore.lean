/- For all words and every word, TrieMore answers true, and turns nothing that was there. No condition. -/
import Derived.Test.YtehdojhblekgeaaRows
import Derived.Test.YtehdojhblekgeaaTrieAwake
import Derived.Test.YtehdojhblekgeaaTrieLawS
import Derived.Test.YtehdojhblekgeaaWordFit
import Derived.Test.YtehdojhblekgeaaOrderWalkE
import Derived.WalkKit
import Derived.ProofKit
import Derived.OpenShut
import Derived.ShutString
import Derived.ChangeOld
import Derived.Below
import Derived.Deep.Matrix
import Derived.SizedLaws
namespace Go.Proofs.Ytehdojhblekgeaa.trieMore
open Go.ChangeShapes Go.WideShapes Go.ChangeAt Go.RowKit
set_option linter.unusedVariables false

theorem own : ownKnob Try.prog.godebug = none := by kernel_rfl
theorem laidOut : laidOutB Try.prog = true := by kernel_rfl

/-- a slice of integers that came in -/
def IsRow (k : IntKind) (w : World) (a : Option Addr) (len cap : Nat) (zs : List Int) : Prop :=
  (a = none ∧ len = 0 ∧ cap = 0 ∧ zs = []) ∨
  ∃ x, a = some x ∧ len ≤ cap ∧ cap ≤ maxLen ∧ zs.length = cap ∧ (∀ i, i < zs.length → w.cell? (x.add i) = some (.int k (zs.getD i 0))) ∧ ∀ n ∈ zs, (Lit.int k n).wf = true

open Tri
theorem made_ok {ws : List (List Int)} (h : (made ws).2 = 0) : ws.length ≤ 300 ∧ (∀ z ∈ ws, Wl.fit z = true) ∧ Rise ws ∧ made ws = (make ws, 0) := by
  unfold made at h ⊢
  by_cases he : (Wl.write ws).2 = 0
  · rw [if_pos he]
    rcases Wl.write_err ws with ⟨_, h1, h2, h3, _⟩ | ⟨h1, _⟩
    · exact ⟨h1, h2, h3, rfl⟩
    · exact absurd he h1
  · rw [if_neg he] at h; exact absurd h he
theorem made_of {ws : List (List Int)} (h1 : ws.length ≤ 300) (h2 : ∀ z ∈ ws, Wl.fit z = true) (h3 : Rise ws) : made ws = (make ws, 0) := by
  have he : (Wl.write ws).2 = 0 := by
    unfold Wl.write
    rw [if_neg (by omega), if_pos ⟨List.all_eq_true.2 h2, Wl.rises_iff.2 h3⟩]
  unfold made
  rw [if_pos he]
theorem short_fit {ws : List (List Int)} (h : ∀ z ∈ ws, Wl.fit z = true) : Tri.Short ws := fun z hz => (Wl.fit_parts (h z hz)).2.1
theorem owns_made (w : World) : (w.alloc (.cells #[] 35)).ownsRow w.heap.size 35 1 (.slice (some ⟨w.heap.size, 0, none⟩) 0 0) 0 (vals []) :=
  World.ownsRow_lit (base := w.heap.size) (e := 35) (size := 1) w #[] 0 (Nat.le_refl _) (Nat.zero_le _) (by simp)

/-! ### STEP 1: the walk -/
set_option maxHeartbeats 6400000 in
set_option maxRecDepth 100000 in
theorem walk (a0 : Option Addr) (len0 cap0 : Nat) (x0 : List Wd) (a1 : Option Addr) (len1 cap1 : Nat) (z1 : List Int) (w : World) (w0 : Ws w a0 len0 cap0 x0) (n0 : a0 = none → cap0 = 0) (w1 : IsRow .i64 w a1 len1 cap1 z1) :
    Calls Try.prog 6 #[.slice a0 len0 cap0, .slice a1 len1 cap1] w fun e w' => e = .returned (.bool true) ∧ Below w.heap.size w w' := by
  have hcm0 := w0.2.2.1
  have hnc0 := w0.2.1
  unfold maxLen at hcm0
  have HX0 := Lib.hid w0
  have HXN0 := Lib.hid n0
  clear w0 n0
  have hs1 := Sl.of_row w1
  generalize z1.take len1 = zs at hs1
  have hcm1 := hs1.2.2.1
  have hnc1 := hs1.2.1
  unfold maxLen at hcm1
  have HS1 := Lib.hid hs1
  clear hs1 w1
  have HZL := Lib.hid HS1.out.1
  obtain ⟨⟨gl, ge⟩, hg⟩ : ∃ g, made (nums x0) = g := ⟨_, rfl⟩
  obtain ⟨ft, hft⟩ : ∃ q, Wl.fit zs = q := ⟨_, rfl⟩
  have HG := Lib.hid hg
  have HFT := Lib.hid hft
  clear hg hft
  go_enter Try.func6, Try.ntmps6
  go_wp2_with fail
  refine (awake_any _).mono ?_
  rintro e v1 ⟨rfl, B1⟩
  have X1 := Lib.hid (HX0.out.below B1 (Nat.le_refl _))
  have S1 := Lib.hid (HS1.out.below B1 (Nat.le_refl _))
  go_wp2_with fail
  refine (tmake_is a0 len0 cap0 x0 _ _ X1.out HXN0.out HG.out).mono ?_
  rintro e v2 ⟨p2, n2, c2, y2, rfl, hs2, hst2, -, hb2⟩
  have B2 := B1.trans (hb2.mono B1.size)
  have X2 := Lib.hid (X1.out.below hb2 (Nat.le_refl _))
  have S2 := Lib.hid (S1.out.below hb2 (Nat.le_refl _))
  have Y2 := Lib.hid hs2
  have T2 : Hid (sts y2 = gl) := hst2
  clear hb2 hs2 hst2
  simp only []
  go_wp2_with fail
  refine (small_is a0 len0 cap0 x0 _ X2.out).mono ?_
  rintro e v3 ⟨he, rfl⟩
  rcases he with rfl | ⟨rfl, hsh, hn60⟩
  · go_wp2
    go_ret
    exact ⟨rfl, B2⟩
  have HSH := Lib.hid hsh
  clear hsh
  go_wp2_with fail
  refine (wfit_is a1 len1 cap1 zs ft v2 S2.out HFT.out).mono ?_
  rintro e v3 ⟨rfl, hv3⟩
  obtain rfl := hv3.symm
  cases ft
  · go_wp2
    go_ret
    exact ⟨rfl, B2⟩
  by_cases hge : ge = 0
  · subst hge
    have HOK := Lib.hid (made_ok (ws := nums x0) (by rw [HG.out]))
    have HGL : Hid (gl = make (nums x0)) := by have h := HOK.out.2.2.2; rw [HG.out] at h; exact congrArg Prod.fst h
    have HN2 : Hid ((begs (nums x0)).length = n2) := by show _ = _; rw [← make_length, ← HGL.out, ← T2.out, sts_length, Y2.out.1]
    have HFW := Lib.hid (Wl.fit_parts HFT.out)
    have hlen1 : len1 ≤ 20 := by rw [← HZL.out]; exact HFW.out.2.1
    have HLX : Hid ((nums x0).length = len0) := by show _ = _; rw [nums_length, X2.out.1]
    have HNEW : Hid (∀ z ∈ srt (nums x0 ++ [zs]), Wl.fit z = true) := fun z hz => by
      rcases List.mem_append.1 (mem_srt.1 hz) with h | h
      · exact HOK.out.2.1 z h
      · rw [List.mem_singleton.1 h]; exact HFT.out
    have HMADE : Hid (made (srt (nums x0 ++ [zs])) = (make (srt (nums x0 ++ [zs])), 0)) := made_of (by have h := srt_length (nums x0 ++ [zs]); rw [List.length_append, HLX.out] at h; simp at h; omega) HNEW.out (rise_srt _)
    have HMORE := Lib.hid (begs_more (ws := nums x0) (w := zs) (short_fit HOK.out.2.1) HFW.out.2.1)
    have HBL : Hid ((begs (nums x0)).length ≤ 1 + 20 * 60) := by have h := begs_le (nums x0); rw [HLX.out] at h; show _ ≤ _; omega
    obtain ⟨sx, hsx⟩ : ∃ s, srt (nums x0 ++ [zs]) = s := ⟨_, rfl⟩
    have HSX := Lib.hid hsx
    rw [hsx] at HMADE HMORE
    clear hsx
    go_wp2_with first
      | (at_builtin; refine append_words rfl (.tmp 32) (.tmp 33) (by rfl) v2.heap.size _ 0 [] (by rfl) (owns_made v2) a0 len0 cap0 x0 (by rfl) (X2.out.alloc _) HXN0.out len0 (by omega) (by omega) (by simp) ?_
         intro a5 c5 w5 hown5 hb5 hnil5
         have HO5 := Lib.hid hown5
         have HB5 : Hid (Below v2.heap.size v2 w5) := ((Below.refl _ v2).alloc (Nat.le_refl _) _).trans hb5
         clear hown5 hb5 hnil5)
      | (at_builtin; refine append_words rfl (.tmp 34) (.tmp 36) (by rfl) v2.heap.size _ len0 ([] ++ x0) (by rfl) (World.ownsRow.alloc HO5.out _) (some ⟨w5.heap.size, 0, none⟩) 1 1 [Wd.mk a1 len1 cap1 zs] (by rfl) (Ws.newc [Wd.mk a1 len1 cap1 zs] (by intro x hx; rw [List.mem_singleton.1 hx]; exact S2.out.below HB5.out (Nat.le_refl _)) (by simp [maxLen]) rfl rfl rfl) (fun h => by cases h) (len0 + 1) rfl (by omega) (by rw [World.size_alloc]; have := HB5.out.size; omega) ?_
         intro a6 c6 w6 hown6 hb6 hnil6
         have HO6 := Lib.hid hown6
         have HB6 : Hid (Below v2.heap.size v2 w6) := (HB5.out.alloc HB5.out.size _).trans hb6
         have HW6 : Hid (Ws w6 a6 (len0 + 1) c6 ([] ++ x0 ++ [Wd.mk a1 len1 cap1 zs])) := Ws.of_owns HO6.out (fun x hx => by
           rcases List.mem_append.1 hx with hx | hx
           · exact (X2.out.2.2.2.1 x (by simpa using hx)).below HB6.out (Nat.le_refl _)
           · rw [List.mem_singleton.1 hx]; exact S2.out.below HB6.out (Nat.le_refl _)) (by simp [X2.out.1])
         clear hown6 hb6 hnil6)
    refine (sort_any a6 (len0 + 1) c6 _ w6 HW6.out (fun x hx => by
      rcases List.mem_append.1 hx with hx | hx
      · exact HSH.out x (by simpa using hx)
      · rw [List.mem_singleton.1 hx]; show len1 ≤ 100; omega) (by omega)).mono ?_
    rintro e v7 ⟨p7, n7, c7, y7, rfl, hs7, hn7, hf7, -, hb7⟩
    have B7 := B2.trans ((HB6.out.trans (hb7.mono HB6.out.size)).mono B2.size)
    have HB27 : Hid (Below v2.heap.size v2 v7) := HB6.out.trans (hb7.mono HB6.out.size)
    have Y7 := Lib.hid hs7
    have N7 : Hid (nums y7 = sx) := by show _ = _; rw [hn7, ← HSX.out]; simp [nums]
    have F7 := Lib.hid hf7
    clear hs7 hn7 hf7 hb7
    go_wp2_with fail
    refine (tmake_is p7 n7 c7 y7 (make sx, 0) _ Y7.out F7.out.nil (by rw [N7.out]; exact HMADE.out)).mono ?_
    rintro e v8 ⟨p8, n8, c8, y8, rfl, hs8, hst8, -, hb8⟩
    have B8 := B7.trans (hb8.mono B7.size)
    have HB28 : Hid (Below v2.heap.size v2 v8) := HB27.out.trans (hb8.mono HB27.out.size)
    have HN8 : Hid ((begs sx).length = n8) := by show _ = _; have e : sts y8 = make sx := hst8; rw [← make_length, ← e, sts_length, hs8.1]
    have X8 := Lib.hid (X2.out.below HB28.out (Nat.le_refl _))
    have S8 := Lib.hid (S2.out.below HB28.out (Nat.le_refl _))
    clear hb8 hs8 hst8
    simp only []
    go_wp2
    go_loopw [10, 11] (fun kv ix wr => ∃ (i k : Nat), i ≤ len0 ∧ kv = .int .i64 (k : Int) ∧ ix = .int .i64 (i : Int) ∧ k ≤ 20 ∧ Hid (mc ((nums x0).take i) zs = k) ∧ Hid (∃ q, wr = v8.drewN q)) (fun _ ix _ => len0 - (intOf ix).toNat)
    case atStart => exact ⟨0, 0, Nat.zero_le _, rfl, rfl, by omega, rfl, ⟨0, rfl⟩⟩
    case round =>
      obtain ⟨i, k, hi, rfl, rfl, hk20, HK, HQ⟩ := hrel
      by_cases hlt : i < len0
      · obtain ⟨b1, o1, za, zn, zc, z, rfl, hb1, hgd, hcl, hsl, hz⟩ := (X8.out.drawn HQ.out).one i hlt
        have HSL := Lib.hid hsl
        have hlti : (i : Int) < (len0 : Int) := by omega
        obtain ⟨c, hc⟩ : ∃ c, common z zs = c := ⟨_, rfl⟩
        have HC := Lib.hid hc
        have hc20 : c ≤ 20 := by have h := (common_le z zs).2; rw [hc, HZL.out] at h; omega
        have HNX : Hid (mc ((nums x0).take (i + 1)) zs = max k c) := by
          show _ = _
          have e : (nums x0).take (i + 1) = (nums x0).take i ++ [z] := by
            rw [List.take_succ_eq_append_getElem (by rw [HLX.out]; exact hlt), ← hz]; simp [show i < (nums x0).length by rw [HLX.out]; exact hlt]
          rw [e, mc_snoc, HK.out, HC.out]
        clear hgd hsl hz hc hb1
        go_wp2_with fail
        refine (common_is za a1 zn len1 zc cap1 z zs c _ HSL.out (S8.out.drawn HQ.out) HC.out).mono ?_
        rintro e w3 ⟨rfl, hq3⟩
        have HQ3 : Hid (∃ q, w3 = v8.drewN q) := by
          obtain ⟨q0, h0⟩ := HQ.out
          obtain ⟨q1, rfl⟩ := hq3
          exact ⟨_, by rw [h0, World.drewN_drewN]⟩
        have hmax : max (k : Int) (c : Int) = ((max k c : Nat) : Int) := by omega
        have hmax' : (if (c : Int) > (k : Int) then (c : Int) else (k : Int)) = ((max k c : Nat) : Int) := by split <;> omega
        clear hq3
        go_wp2
        go_roundw
        case rel => exact ⟨i + 1, max k c, by omega, by first | rfl | (rw [hmax']) | (simp [hmax, hmax']), by go_num, by omega, HNX.out, HQ3.out⟩
        case measure => simp [intOf]; omega
      · obtain rfl : len0 = i := by omega
        have HKK : Hid (mc (nums x0) zs = k) := by
          have h := HK.out
          rw [List.take_of_length_le (by rw [HLX.out]; exact Nat.le_refl _)] at h; exact h
        have hlen : n8 = n2 + len1 - k := by have h := HMORE.out; rw [HN8.out, HN2.out, HZL.out, HKK.out] at h; exact h
        have hkl : k ≤ len1 := by have h := mc_length (nums x0) zs; rw [HKK.out, HZL.out] at h; exact h
        have hn2 : n2 ≤ 1201 := by rw [← HN2.out]; exact HBL.out
        have hw1 : IntKind.i64.wrap ((n2 : Int) + (len1 : Int)) = (n2 : Int) + (len1 : Int) := by rw [IntKind.wrap_i64]; omega
        have hw2 : IntKind.i64.wrap ((n2 : Int) + (len1 : Int) - (k : Int)) = (n8 : Int) := by rw [IntKind.wrap_i64]; omega
        have hfin : ((n8 : Int) == (n8 : Int)) = true := by simp
        have B9 := below_drawn B8 HQ.out
        clear hlen
        go_wp2
        go_ret
        exact ⟨rfl, B9⟩
  · have hne : (ge != 0) = true := by simpa using hge
    clear hge
    go_wp2
    go_ret
    exact ⟨rfl, B2⟩

set_option maxRecDepth 100000 in
theorem lifted (os : Os) (started : os.Started) (H : Type) (enc : TypeId × Value → H) :
    ReturnsInHanded {} Try.checked os 6 .any (Rows.trieMoreSpec.pre6 enc Try.prog Try.f6 Rows.trieMoreRow.domain false) (Rows.trieMoreSpec.post enc Try.prog Try.f6 false true false false) := by
  refine returnsInHanded_of_change (C := Try.checked) own started (by kernel_rfl) Try.func6
    (ChangeSpec.witness6 (enc := enc) (C := Try.checked) false ⟨#[], #[.slice none 0 0, .slice none 0 0], []⟩ 8 (by kernel_rfl) (by kernel_rfl) (by kernel_rfl) (by kernel_rfl)) ?_
  intro W base args ds gs before hval0 hW hcnd _
  have hval : ∀ (j : Nat) t v, Try.f6.params[j]? = some t → args[j]? = some v → Value.okWide Try.prog W .any base t v := hval0
  have hW' := hW
  obtain ⟨p, q, hA0, hV, rfl, hfz, hnd⟩ := hW
  have hA : DataW.TrodAll enc Try.prog W 0 (fun _ => true) true Try.f6.params.toList args.toList ds p := hA0
  rw [Try.params6] at hA hval
  obtain ⟨v0, vs0, d0, ds0, p0, q0, hargs, rfl, rfl, h0, r0⟩ := trodAll_cons hA
  obtain ⟨v1, vs1, d1, ds1, p1, q1, rfl, rfl, rfl, h1, r1⟩ := trodAll_cons r0
  obtain ⟨rfl, rfl, rfl⟩ := trodAll_nil r1
  obtain rfl : args = #[v0, v1] := by cases args; simp_all
  obtain ⟨rfl, rfl⟩ := trodVars_none hV
  obtain ⟨a0, len0, cap0, rfl⟩ := okWide_slice Try.underlying23 (hval 0 23 v0 rfl rfl)
  have k0 := h0
  have lt0 : ∀ x ∈ p0, x.block < W.heap.size := by obtain ⟨m, hm⟩ := k0; exact DataW.trod_lt m _ _ _ hm
  obtain ⟨x0, w0, n0⟩ : ∃ xs, Ws W a0 len0 cap0 xs ∧ (a0 = none → cap0 = 0) := by
    obtain ⟨fuel, hf⟩ := h0
    rcases Go.Deep.open_int_rows Try.underlying23 Try.underlying35 Try.underlying3 (by kernel_rfl) (by kernel_rfl) hf with ⟨hcs, _⟩ | ⟨x, l, c, A, L, C, Z, hcs, _, hl, hm, _, hr⟩
    · simp [Value.cells] at hcs
      obtain ⟨rfl, rfl, rfl⟩ := hcs
      exact ⟨[], Ws.nil, fun _ => rfl⟩
    · simp [Value.cells] at hcs
      obtain ⟨rfl, rfl, rfl⟩ := hcs
      exact ⟨_, Ws.of_rows hl hm hr, fun h => by cases h⟩
  obtain ⟨a1, len1, cap1, rfl⟩ := okWide_slice Try.underlying35 (hval 1 35 v1 rfl rfl)
  have k1 := h1
  have lt1 : ∀ x ∈ p1, x.block < W.heap.size := by obtain ⟨m, hm⟩ := k1; exact DataW.trod_lt m _ _ _ hm
  obtain ⟨z1, w1⟩ : ∃ zs, IsRow .i64 W a1 len1 cap1 zs := by
    obtain ⟨fuel, hf⟩ := h1
    rcases open_ints Try.underlying35 Try.underlying3 (by kernel_rfl) hf with ⟨hcs, _⟩ | ⟨x, l, c, zs, hcs, _, hl, hm, hz, _, hcell, hwz⟩
    · simp [Value.cells] at hcs
      obtain ⟨rfl, rfl, rfl⟩ := hcs
      exact ⟨[], .inl ⟨rfl, rfl, rfl, rfl⟩⟩
    · simp [Value.cells] at hcs
      obtain ⟨rfl, rfl, rfl⟩ := hcs
      exact ⟨zs, .inr ⟨_, rfl, hl, hm, by simpa using hz, hcell, hwz⟩⟩
  clear hA0 hval0
  refine (walk a0 len0 cap0 x0 a1 len1 cap1 z1 W w0 n0 w1).mono fun e W' ⟨he, bel⟩ => ?_
  subst he
  exact ⟨_, rfl, _, _, _, [], _, [], hW', trodAll_mk1 (shut_bool Try.underlying4 _), (trodAll_cons_mk (Below.trod laidOut (by kernel_rfl) (of_decide_eq_true (by kernel_rfl)) k0 bel lt0) (trodAll_cons_mk (Below.trod laidOut (by kernel_rfl) (of_decide_eq_true (by kernel_rfl)) k1 bel lt1) trodAll_mk0)), rfl, bel.frame _, fun h => by cases h⟩

theorem over : Rows.trieMoreRow.holds Try.pinned (OpenSpec.ofChange Rows.trieMoreSpec) :=
  OpenClaim.holds_of_wide 6 Try.f6 rfl rfl rfl rfl rfl rfl rfl ⟨rfl, rfl, rfl, rfl, rfl⟩ rfl rfl rfl rfl rfl (by kernel_rfl) Try.func6 (by kernel_rfl)
    (of_decide_eq_true (by kernel_rfl)) (by unfold Func.isWrapper; first | (rw [if_pos (by decide +kernel)]; kernel_rfl) | (rw [if_neg (by decide +kernel)]; exact ⟨rfl, rfl⟩))
    (fun os started H enc _ => lifted os started H enc)

/-- the statement -/
theorem proved : Rows.TrieMoreSaid := over
#print axioms proved
end Go.Proofs.Ytehdojhblekgeaa.trieMore
