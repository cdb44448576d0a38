/- For every automaton, every word and any two numbers, WalkOn answers true, and turns nothing that was there. No condition. -/
import Derived.Test.YtimjdlbhbiklgaaRows
import Derived.Test.YtimjdlbhbiklgaaWalkAwake
import Derived.Test.YtimjdlbhbiklgaaWalkFrom
import Derived.Test.YtimjdlbhbiklgaaPackA
import Derived.Test.YtimjdlbhbiklgaaWalkApp
import Derived.Test.YtimjdlbhbiklgaaTrieOpen
import Derived.Test.YtimjdlbhbiklgaaPackM
import Derived.Test.YtimjdlbhbiklgaaOrderInts
import Derived.Test.YtimjdlbhbiklgaaDawgLists
import Derived.WalkKit
import Derived.ProofKit
import Derived.OpenShut
import Derived.ShutString
import Derived.ChangeOld
import Derived.Below
import Derived.Deep.Matrix
import Derived.SizedLaws
namespace Go.Proofs.Ytimjdlbhbiklgaa.walkOn
open Go.ChangeShapes Go.WideShapes Go.ChangeAt Go.RowKit
set_option linter.unusedVariables false

theorem own : ownKnob Try.prog.godebug = none := by kernel_rfl
theorem laidOut : laidOutB Try.prog = true := by kernel_rfl

/-- a slice of integers that came in -/
def IsRow (k : IntKind) (w : World) (a : Option Addr) (len cap : Nat) (zs : List Int) : Prop :=
  (a = none ∧ len = 0 ∧ cap = 0 ∧ zs = []) ∨
  ∃ x, a = some x ∧ len ≤ cap ∧ cap ≤ maxLen ∧ zs.length = cap ∧ (∀ i, i < zs.length → w.cell? (x.add i) = some (.int k (zs.getD i 0))) ∧ ∀ n ∈ zs, (Lit.int k n).wf = true

open Tri Wlk

/-! ### STEP 1: the walk -/
set_option maxHeartbeats 6400000 in
set_option maxRecDepth 100000 in
theorem walk (a0 : Option Addr) (len0 cap0 : Nat) (x0 : List Sw) (a1 : Option Addr) (len1 cap1 : Nat) (z1 : List Int) (a2 : Int) (a3 : Int) (w : World) (w0 : Ss w a0 len0 cap0 x0) (n0 : a0 = none → cap0 = 0) (w1 : IsRow .i64 w a1 len1 cap1 z1) (w2 : (Lit.int .u8 a2).wf = true) (w3 : (Lit.int .u8 a3).wf = true) :
    Calls Try.prog 7 #[.slice a0 len0 cap0, .slice a1 len1 cap1, .int .u8 a2, .int .u8 a3] w fun e w' => e = .returned (.bool true) ∧ Below w.heap.size w w' := by
  have hcm0 := w0.2.2.1
  have hnc0 := w0.2.1
  unfold maxLen at hcm0
  have HX0 := Lib.hid w0
  clear w0 n0
  have hn10 : a1 = none → cap1 = 0 := by
    rcases w1 with ⟨_, _, h, _⟩ | ⟨x, h, _⟩
    · exact fun _ => h
    · intro h'; rw [h] at h'; cases h'
  have HN1 := Lib.hid hn10
  clear hn10
  have hs1 := Sl.of_row w1
  generalize z1.take len1 = zs at hs1
  have hcm1 := hs1.2.2.1
  have hnc1 := hs1.2.1
  unfold maxLen at hcm1
  have HS1 := Lib.hid hs1
  have HLEN1 := Lib.hid hs1.1
  clear hs1 w1
  have hu2 := bounds_u8 w2
  have hu3 := bounds_u8 w3
  obtain ⟨s2, rfl⟩ : ∃ s : Nat, a2 = (s : Int) := ⟨a2.toNat, by omega⟩
  obtain ⟨s3, rfl⟩ : ∃ s : Nat, a3 = (s : Int) := ⟨a3.toNat, by omega⟩
  obtain ⟨N, hN⟩ : ∃ N, N = s2 % 150 := ⟨_, rfl⟩
  obtain ⟨M, hM⟩ : ∃ M, M = s3 % 150 := ⟨_, rfl⟩
  have hN1 : N < 150 := by omega
  have hM1 : M < 150 := by omega
  have hNs : (s2 : Int) % 150 = (N : Int) := by omega
  have hMs : (s3 : Int) % 150 = (M : Int) := by omega
  have hwN : IntKind.u8.wrap (N : Int) = (N : Int) := by rw [IntKind.wrap_u8]; omega
  have hwM : IntKind.u8.wrap (M : Int) = (M : Int) := by rw [IntKind.wrap_u8]; omega
  have hvN : IntKind.i64.wrap (N : Int) = (N : Int) := by rw [IntKind.wrap_i64]; omega
  have hvM : IntKind.i64.wrap (M : Int) = (M : Int) := by rw [IntKind.wrap_i64]; omega
  have hNM : IntKind.i64.wrap ((N : Int) + (M : Int)) = (N : Int) + (M : Int) := by rw [IntKind.wrap_i64]; omega
  clear hu2 hu3 w2 w3 hN hM
  obtain ⟨⟨L1, e1⟩, hf1⟩ : ∃ r, fromC (sts x0) zs (N : Int) = r := ⟨_, rfl⟩
  have HF1 := Lib.hid hf1
  have hib : (100 < len1 → (100 : Int) < (len1 : Int)) ∧ (len1 ≤ 100 → ¬ (100 : Int) < (len1 : Int)) := ⟨fun h => by omega, fun h => by omega⟩
  clear hf1
  go_enter Try.func7, Try.ntmps7
  go_wp2_with fail
  refine (awake_any _).mono ?_
  rintro e v1 ⟨rfl, B1⟩
  have S1 := Lib.hid (HX0.out.below B1 (Nat.le_refl _))
  have Z1 := Lib.hid (HS1.out.below B1 (Nat.le_refl _))
  go_wp2_with fail
  refine (rfew10_is a0 len0 cap0 x0 200 (by omega) v1 S1.out).mono ?_
  rintro e v2 ⟨he, hv2⟩
  obtain rfl := hv2.symm
  rcases he with rfl | ⟨rfl, hsh, hn200⟩
  · go_wp2
    go_ret
    exact ⟨rfl, B1⟩
  by_cases g1 : 100 < len1
  · have hi1 := hib.1 g1
    clear hib
    go_wp2
    go_ret
    exact ⟨rfl, B1⟩
  have hi1 := hib.2 (by omega)
  clear hib g1
  go_wp2_with fail
  refine (wfrom_is a0 a1 len0 cap0 len1 cap1 x0 zs (N : Int) _ L1 e1 S1.out Z1.out HN1.out HF1.out).mono ?_
  rintro e v3 ⟨p3, k3, c3, o3, rfl, m3, n3, b3⟩
  have B3 := B1.trans (b3.mono B1.size)
  have S3 := Lib.hid (S1.out.below b3 (Nat.le_refl _))
  have Z3 := Lib.hid (Z1.out.below b3 (Nat.le_refl _))
  have hk3 : k3 = L1.length := by rw [← m3.len, ← nums_length, n3]
  have M3 := Lib.hid m3
  have N3 := Lib.hid n3
  clear b3 m3 n3
  simp only []
  rcases from_err (by omega) HF1.out with ⟨rfl, hck, hL⟩ | ⟨rfl, -, hL⟩
  rotate_left
  · go_wp2
    go_ret
    exact ⟨rfl, B3⟩
  rcases Nat.eq_zero_or_pos k3 with h0 | h0
  · subst h0
    clear hk3
    go_wp2
    go_ret
    exact ⟨rfl, B3⟩
  obtain ⟨j, rfl⟩ : ∃ j, k3 = j + 1 := ⟨k3 - 1, by omega⟩
  have hkN : j + 1 ≤ N := by rw [hk3, hL, List.length_take]; exact Nat.min_le_left _ _
  have HCK := Lib.hid hck
  have HL := Lib.hid hL
  have HK3 := Lib.hid hk3
  obtain ⟨b1, o1, za, zn, zc, z, rfl, hb1, hcl, hsl, hzi, hzn⟩ := M3.out.one j (by omega)
  have hzm : z ∈ wds (sts x0) 0 := by
    have h : z ∈ L1 := by rw [← hzi, N3.out]; exact Wlk.getD_mem (by omega)
    rw [hL] at h
    exact (mem_ge.1 (List.mem_of_mem_take h)).1
  have hzl := (wds_good hck z (i := 0) (by have := (check_size hck).1; omega) hzm).2
  have hzs := (check_size hck).2
  have hzk : zn ≤ 6000 := by have := hsl.1; omega
  have HSL := Lib.hid hsl
  have HZN := Lib.hid hzn
  have HZI := Lib.hid hzi
  have HB0 : ∀ o, Hid (Below v3.heap.size v3 (v3.alloc o)) := fun o => Lib.hid ((Below.refl _ v3).alloc (Nat.le_refl _) o)
  have hcl2 : ∀ o, (v3.alloc o).cell? ⟨b1, o1 + j, none⟩ = some (.slice za zn zc) := fun o => by rw [(HB0 o).out.cell (p := ⟨b1, o1 + j, none⟩) hb1]; exact hcl
  have hjb : ((((j + 1 : Nat) : Int)) == 0) = false := by simp; omega
  have hjb' : (((j : Int) + 1) == 0) = false := by simp; omega
  have hjb2 : ¬ ((j : Int) + 1 = 0) := by omega
  have hjw : IntKind.i64.wrap (((j + 1 : Nat) : Int) - 1) = (j : Int) := by rw [IntKind.wrap_i64]; omega
  have hjw' : IntKind.i64.wrap ((j : Int) + 1 - 1) = (j : Int) := by rw [IntKind.wrap_i64]; omega
  have hjl : (j : Int) < (j : Int) + 1 := by omega
  have hj0 : (0 : Int) ≤ (j : Int) := by omega
  have HF2 : Hid (fromC (sts x0) ([] ++ z ++ [0]) (M : Int) = ((ge (sts x0) 0 (z ++ [0])).take M, 0)) := from_ok hck _ rfl (by omega)
  have HF3 : Hid (fromC (sts x0) zs ((N : Int) + (M : Int)) = ((ge (sts x0) 0 zs).take (N + M), 0)) := from_ok hck _ (by omega) (by omega)
  have HALL : Hid ((ge (sts x0) 0 zs).take (N + M) = L1 ++ (ge (sts x0) 0 (z ++ [0])).take M) := by
    show _ = _
    have h1 : L1.length - 1 = j := by omega
    rw [ge_on hck hL.symm (by omega) (by rw [h1, ← hzi, N3.out]), hL, List.take_add]
  clear hk3 hL hck hzi hsl hzm hzn hzl hcl h0 hzs
  go_wp2_with first
    | (at_builtin; refine append_ints rfl (.tmp 53) (.tmp 59) (by rfl) v3.heap.size _ 0 [] (by rfl) (owns_none_ints v3) za zn zc z (by rfl) (HSL.out.alloc _) HZN.out zn (by omega) (by omega) (by simp) ?_
       intro a5 c5 w5 hown5 hb5 hnil5
       have HO5 := Lib.hid hown5
       have HB5 : Hid (Below v3.heap.size v3 w5) := (HB0 _).out.trans hb5
       clear hown5 hb5 hnil5)
    | (at_builtin; refine append_ints rfl (.tmp 60) (.tmp 61) (by rfl) v3.heap.size _ zn ([] ++ z) (by rfl) (World.ownsRow.alloc HO5.out _) (some ⟨w5.heap.size, 0, none⟩) 1 1 [0] (by rfl) (Sl.newJ [0] (by decide) (by simp [maxLen]) rfl rfl rfl) (fun h => by cases h) (zn + 1) rfl (by omega) (by rw [size_alloc]; have := HB5.out.size; omega) ?_
       intro a6 c6 w6 hown6 hb6 hnil6
       have HB6 : Hid (Below v3.heap.size v3 w6) := (HB5.out.alloc HB5.out.size _).trans hb6
       have HG6 : Hid (Sl .i64 w6 a6 (zn + 1) c6 ([] ++ z ++ [0])) := Sl.of_owns hown6 (by
         intro x hx
         rcases List.mem_append.1 hx with hx | hx
         · exact HSL.out.2.2.2.1 x (by simpa using hx)
         · rw [List.mem_singleton.1 hx]; decide) (by simp [HSL.out.1])
       have HN6 := Lib.hid hnil6
       clear hown6 hb6 hnil6)
  refine (wfrom_is a0 a6 len0 cap0 (zn + 1) c6 x0 ([] ++ z ++ [0]) (M : Int) _ _ 0 (S3.out.below HB6.out (Nat.le_refl _)) HG6.out HN6.out HF2.out).mono ?_
  rintro e v4 ⟨p4, k4, c4, o4, rfl, m4, n4, b4⟩
  have HB4 : Hid (Below v3.heap.size v3 v4) := HB6.out.trans (b4.mono HB6.out.size)
  have hk4 : k4 ≤ M := by rw [← m4.len, ← nums_length, n4, List.length_take]; exact Nat.min_le_left _ _
  have M4 := Lib.hid m4
  have N4 := Lib.hid n4
  clear b4 m4 n4 HN6 HG6 HB6 HB5 HO5 hcl2
  simp only []
  go_wp2_with fail
  refine (wfrom_is a0 a1 len0 cap0 len1 cap1 x0 zs ((N : Int) + (M : Int)) _ _ 0 (S3.out.below HB4.out (Nat.le_refl _)) (Z3.out.below HB4.out (Nat.le_refl _)) HN1.out HF3.out).mono ?_
  rintro e v5 ⟨p5, k5, c5, o5, rfl, m5, n5, b5⟩
  have HB5 : Hid (Below v3.heap.size v3 v5) := HB4.out.trans (b5.mono HB4.out.size)
  have M4 := Lib.hid (M4.out.below b5)
  have M3 := Lib.hid (M3.out.below HB5.out)
  have M5 := Lib.hid m5
  have N5 := Lib.hid n5
  clear b5 m5 n5
  simp only []
  have HC0 : ∀ o, Hid (Below v5.heap.size v5 (v5.alloc o)) := fun o => Lib.hid ((Below.refl _ v5).alloc (Nat.le_refl _) o)
  go_wp2_with first
    | (at_builtin; refine append_words_w (by rfl) (.tmp 93) (.tmp 94) (by rfl) v5.heap.size _ 0 [] (by rfl) (owns_none_words v5) _ (j + 1) c3 o3 (by rfl) (M3.out.words.alloc _) M3.out.nil (j + 1) (by omega) (by omega) (by simp) ?_
       intro a7 c7 w7 hown7 hb7 _ hnil7
       have HO7 := Lib.hid hown7
       have HB7 : Hid (Below v5.heap.size v5 w7) := (HC0 _).out.trans hb7
       clear hown7 hb7 hnil7)
    | (at_builtin; refine append_words_w (by rfl) (.tmp 95) (.tmp 96) (by rfl) v5.heap.size _ (j + 1) ([] ++ o3) (by rfl) HO7.out _ k4 c4 o4 (by rfl) (M4.out.words.below HB7.out (Nat.le_refl _)) M4.out.nil (j + 1 + k4) rfl (by omega) HB7.out.size ?_
       intro a8 c8 w8 hown8 hb8 _ hnil8
       have HB8 : Hid (Below v5.heap.size v5 w8) := HB7.out.trans hb8
       have HW8 : Hid (Ws w8 a8 (j + 1 + k4) c8 ([] ++ o3 ++ o4)) := Ws.of_owns hown8 (by
         intro x hx
         rcases List.mem_append.1 hx with hx | hx
         · exact (M3.out.words.below HB8.out (Nat.le_refl _)).2.2.2.1 x (by simpa using hx)
         · exact (M4.out.words.below HB8.out (Nat.le_refl _)).2.2.2.1 x hx) (by simp [M3.out.len, M4.out.len])
       clear hown8 hb8 hnil8)
  refine (sames_is p5 a8 k5 (j + 1 + k4) c5 c8 o5 ([] ++ o3 ++ o4) true _ (M5.out.words.below HB8.out (Nat.le_refl _)) HW8.out (decide_eq_true (by rw [N5.out, nums_app, List.nil_append, N3.out, N4.out]; exact HALL.out))).mono ?_
  rintro e v6 ⟨rfl, hq6⟩
  have B6 := below_drawn (B3.trans ((HB5.out.trans (HB8.out.mono HB5.out.size)).mono B3.size)) hq6
  clear hq6
  go_wp2
  go_ret
  exact ⟨rfl, B6⟩

set_option maxRecDepth 100000 in
theorem lifted (os : Os) (started : os.Started) (H : Type) (enc : TypeId × Value → H) :
    ReturnsInHanded {} Try.checked os 7 .any (Rows.walkOnSpec.pre6 enc Try.prog Try.f7 Rows.walkOnRow.domain false) (Rows.walkOnSpec.post enc Try.prog Try.f7 false true false false) := by
  refine returnsInHanded_of_change (C := Try.checked) own started (by kernel_rfl) Try.func7
    (ChangeSpec.witness6 (enc := enc) (C := Try.checked) false ⟨#[], #[.slice none 0 0, .slice none 0 0, .int .u8 0, .int .u8 0], []⟩ 8 (by kernel_rfl) (by kernel_rfl) (by kernel_rfl) (by kernel_rfl)) ?_
  intro W base args ds gs before hval0 hW hcnd _
  have hval : ∀ (j : Nat) t v, Try.f7.params[j]? = some t → args[j]? = some v → Value.okWide Try.prog W .any base t v := hval0
  have hW' := hW
  obtain ⟨p, q, hA0, hV, rfl, hfz, hnd⟩ := hW
  have hA : DataW.TrodAll enc Try.prog W 0 (fun _ => true) true Try.f7.params.toList args.toList ds p := hA0
  rw [Try.params7] at hA hval
  obtain ⟨v0, vs0, d0, ds0, p0, q0, hargs, rfl, rfl, h0, r0⟩ := trodAll_cons hA
  obtain ⟨v1, vs1, d1, ds1, p1, q1, rfl, rfl, rfl, h1, r1⟩ := trodAll_cons r0
  obtain ⟨v2, vs2, d2, ds2, p2, q2, rfl, rfl, rfl, h2, r2⟩ := trodAll_cons r1
  obtain ⟨v3, vs3, d3, ds3, p3, q3, rfl, rfl, rfl, h3, r3⟩ := trodAll_cons r2
  obtain ⟨rfl, rfl, rfl⟩ := trodAll_nil r3
  obtain rfl : args = #[v0, v1, v2, v3] := by cases args; simp_all
  obtain ⟨rfl, rfl⟩ := trodVars_none hV
  obtain ⟨a0, len0, cap0, rfl⟩ := okWide_slice Try.underlying22 (hval 0 22 v0 rfl rfl)
  have k0 := h0
  have lt0 : ∀ x ∈ p0, x.block < W.heap.size := by obtain ⟨m, hm⟩ := k0; exact DataW.trod_lt m _ _ _ hm
  obtain ⟨x0, w0, n0⟩ : ∃ xs, Ss W a0 len0 cap0 xs ∧ (a0 = none → cap0 = 0) := by
    obtain ⟨fuel, hf⟩ := h0
    obtain ⟨a, l, c, xs, hcs, hrs, hnil⟩ := Ss.open hf
    simp only [Value.slice.injEq] at hcs
    obtain ⟨rfl, rfl, rfl⟩ := hcs
    exact ⟨xs, hrs, hnil⟩
  obtain ⟨a1, len1, cap1, rfl⟩ := okWide_slice Try.underlying23 (hval 1 23 v1 rfl rfl)
  have k1 := h1
  have lt1 : ∀ x ∈ p1, x.block < W.heap.size := by obtain ⟨m, hm⟩ := k1; exact DataW.trod_lt m _ _ _ hm
  obtain ⟨z1, w1⟩ : ∃ zs, IsRow .i64 W a1 len1 cap1 zs := by
    obtain ⟨fuel, hf⟩ := h1
    rcases open_ints Try.underlying23 Try.underlying3 (by kernel_rfl) hf with ⟨hcs, _⟩ | ⟨x, l, c, zs, hcs, _, hl, hm, hz, _, hcell, hwz⟩
    · simp [Value.cells] at hcs
      obtain ⟨rfl, rfl, rfl⟩ := hcs
      exact ⟨[], .inl ⟨rfl, rfl, rfl, rfl⟩⟩
    · simp [Value.cells] at hcs
      obtain ⟨rfl, rfl, rfl⟩ := hcs
      exact ⟨zs, .inr ⟨_, rfl, hl, hm, by simpa using hz, hcell, hwz⟩⟩
  obtain ⟨a2, rfl, rfl, rfl, w2⟩ := open_int Try.underlying5 (hval 2 5 v2 rfl rfl) h2
  obtain ⟨a3, rfl, rfl, rfl, w3⟩ := open_int Try.underlying5 (hval 3 5 v3 rfl rfl) h3
  clear hA0 hval0
  refine (walk a0 len0 cap0 x0 a1 len1 cap1 z1 a2 a3 W w0 n0 w1 w2 w3).mono fun e W' ⟨he, bel⟩ => ?_
  subst he
  exact ⟨_, rfl, _, _, _, [], _, [], hW', trodAll_mk1 (shut_bool Try.underlying4 _), (trodAll_cons_mk (Below.trod laidOut (by kernel_rfl) (of_decide_eq_true (by kernel_rfl)) k0 bel lt0) (trodAll_cons_mk (Below.trod laidOut (by kernel_rfl) (of_decide_eq_true (by kernel_rfl)) k1 bel lt1) (trodAll_cons_mk (shut_int Try.underlying5 w2) (trodAll_cons_mk (shut_int Try.underlying5 w3) trodAll_mk0)))), rfl, bel.frame _, fun h => by cases h⟩

theorem over : Rows.walkOnRow.holds Try.pinned (OpenSpec.ofChange Rows.walkOnSpec) :=
  OpenClaim.holds_of_wide 7 Try.f7 rfl rfl rfl rfl rfl rfl rfl ⟨rfl, rfl, rfl, rfl, rfl⟩ rfl rfl rfl rfl rfl (by kernel_rfl) Try.func7 (by kernel_rfl)
    (of_decide_eq_true (by kernel_rfl)) (by unfold Func.isWrapper; first | (rw [if_pos (by decide +kernel)]; kernel_rfl) | (rw [if_neg (by decide +kernel)]; exact ⟨rfl, rfl⟩))
    (fun os started H enc _ => lifted os started H enc)

/-- the statement -/
theorem proved : Rows.WalkOnSaid := over
#print axioms proved
end Go.Proofs.Ytimjdlbhbiklgaa.walkOn
