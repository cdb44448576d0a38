/- For every list and all words, WordsBack answers true, and turns nothing that was there. No condition. -/
import Derived.Test.YtflikfnehpaohaaRows
import Derived.Test.YtflikfnehpaohaaWordAwake
import Derived.WalkKit
import Derived.ProofKit
import Derived.OpenShut
import Derived.ShutString
import Derived.ChangeOld
import Derived.Below
import Derived.Deep.Matrix
import Derived.SizedLaws
namespace Go.Proofs.Ytflikfnehpaohaa.wordsBack
open Go.ChangeShapes Go.WideShapes Go.ChangeAt Go.RowKit
set_option linter.unusedVariables false

theorem own : ownKnob Try.prog.godebug = none := by kernel_rfl
theorem laidOut : laidOutB Try.prog = true := by kernel_rfl

/-- a slice of integers that came in -/
def IsRow (k : IntKind) (w : World) (a : Option Addr) (len cap : Nat) (zs : List Int) : Prop :=
  (a = none ∧ len = 0 ∧ cap = 0 ∧ zs = []) ∨
  ∃ x, a = some x ∧ len ≤ cap ∧ cap ≤ maxLen ∧ zs.length = cap ∧ (∀ i, i < zs.length → w.cell? (x.add i) = some (.int k (zs.getD i 0))) ∧ ∀ n ∈ zs, (Lit.int k n).wf = true

theorem write_len (l : List (List Int)) : (Wl.write l).1.length ≤ 24300 := by
  rcases Wl.write_err l with ⟨-, h1, h2, -, h4⟩ | ⟨-, h⟩
  · rw [h4]
    have := wlines_le l fun w hw => (Wl.fit_parts (h2 w hw)).2.1
    unfold wlines at this
    omega
  · rw [h]; simp

/-! ### STEP 1: the walk -/
set_option maxHeartbeats 6400000 in
set_option maxRecDepth 100000 in
theorem walk (a0 : Option Addr) (len0 cap0 : Nat) (z0 : List Int) (a1 : Option Addr) (len1 cap1 : Nat) (x1 : List Wd) (w : World) (w0 : IsRow .u8 w a0 len0 cap0 z0) (w1 : Ws w a1 len1 cap1 x1) (n1 : a1 = none → cap1 = 0) :
    Calls Try.prog 4 #[.slice a0 len0 cap0, .slice a1 len1 cap1] w fun e w' => e = .returned (.bool true) ∧ Below w.heap.size w w' := by
  have hn00 : a0 = none → cap0 = 0 := by
    rcases w0 with ⟨_, _, h, _⟩ | ⟨x, h, _⟩
    · exact fun _ => h
    · intro h'; rw [h] at h'; cases h'
  have HN0 := Lib.hid hn00
  clear hn00
  have hs0 := Sl.of_row w0
  generalize z0.take len0 = xs at hs0
  have hcm0 := hs0.2.2.1
  have hnc0 := hs0.2.1
  unfold maxLen at hcm0
  have HS0 := Lib.hid hs0
  have HLEN0 := Lib.hid hs0.1
  clear hs0 w0
  have hcm1 := w1.2.2.1
  have hnc1 := w1.2.1
  unfold maxLen at hcm1
  have HX1 := Lib.hid w1
  have HXN1 := Lib.hid n1
  clear w1 n1
  obtain ⟨⟨ws2, at2, er2⟩, hg2⟩ : ∃ g, Wl.read xs = g := ⟨_, rfl⟩
  obtain ⟨⟨bs, we⟩, hp⟩ : ∃ p, Wl.write (nums x1) = p := ⟨_, rfl⟩
  have HG2 := Lib.hid hg2
  have HP := Lib.hid hp
  clear hg2 hp
  go_enter Try.func4, Try.ntmps4
  go_wp2_with fail
  refine (awake_any _).mono ?_
  rintro e v1 ⟨rfl, B1⟩
  have S1 := Lib.hid (HS0.out.below B1 (Nat.le_refl _))
  have X1 := Lib.hid (HX1.out.below B1 (Nat.le_refl _))
  by_cases g0 : 3000 < len0
  · have hi0 : (3000 : Int) < (len0 : Int) := by omega
    go_wp2
    go_ret
    exact ⟨rfl, B1⟩
  have hi0 : decide ((3000 : Int) < (len0 : Int)) = false := by simp; omega
  go_wp2_with fail
  refine (few_of 400 400 _ _ _ _ _ rfl X1.out).mono ?_
  rintro e v2 ⟨he, rfl⟩
  rcases he with rfl | ⟨rfl, -, hn400⟩
  · go_wp2
    go_ret
    exact ⟨rfl, B1⟩
  by_cases hwe : we = 0
  · subst hwe
    have hr1 := Wl.read_write (l := nums x1) (by rw [HP.out])
    have hl1 := write_len (nums x1)
    rw [HP.out] at hr1 hl1
    have HG1 : Hid (Wl.read bs = ⟨nums x1, -1, 0⟩) := hr1
    have HL : Hid (bs.length ≤ 1000000) := by show _ ≤ _; have : bs.length ≤ 24300 := hl1; omega
    clear hr1 hl1
    go_wp2_with fail
    refine (wwrite_is a1 len1 cap1 x1 _ _ X1.out HP.out).mono ?_
    intro e v3 h3
    obtain ⟨p3, c3, rfl, hsw3, hnil3, hb3⟩ := h3.lay rfl
    have B3 := B1.trans (hb3.mono B1.size)
    have S3 := Lib.hid (S1.out.below hb3 (Nat.le_refl _))
    have X3 := Lib.hid (X1.out.below hb3 (Nat.le_refl _))
    have P3 := Lib.hid hsw3
    have PN3 := Lib.hid hnil3
    clear hb3 hsw3 hnil3 h3
    obtain ⟨m, hm⟩ : ∃ m, bs.length = m := ⟨_, rfl⟩
    rw [hm] at P3 ⊢
    have hm9 : m ≤ 1000000 := by rw [← hm]; exact HL.out
    clear hm
    go_wp2_with fail
    refine (wread_is p3 m c3 bs _ _ P3.out PN3.out hm9 HG1.out).mono ?_
    rintro e v4 ⟨p4, n4, c4, xs4, rfl, hws4, hnu4, -, hb4⟩
    have B4 := B3.trans (hb4.mono B3.size)
    have S4 := Lib.hid (S3.out.below hb4 (Nat.le_refl _))
    have X4 := Lib.hid (X3.out.below hb4 (Nat.le_refl _))
    have W4 := Lib.hid hws4
    have N4 : Hid (nums xs4 = nums x1) := hnu4
    clear hb4 hws4 hnu4
    simp only []
    go_wp2_with fail
    refine (sames_is p4 a1 n4 len1 c4 cap1 xs4 x1 true _ W4.out X4.out (decide_eq_true N4.out)).mono ?_
    rintro e v6 ⟨rfl, hq6⟩
    have B6 := below_drawn B4 hq6
    have S6 := Lib.hid (S4.out.drawn hq6)
    clear hq6 W4 X4 N4
    by_cases he2 : er2 = 0
    · subst he2
      have hw2 := Wl.write_read (b := xs) (by rw [HG2.out])
      rw [HG2.out] at hw2
      obtain ⟨⟨bs2, we2⟩, hp2⟩ : ∃ p, Wl.write ws2 = p := ⟨_, rfl⟩
      have hr2 := Wl.read_write (l := ws2) hw2
      have hl2 := write_len ws2
      rw [hp2] at hw2 hr2 hl2
      have hw2' : we2 = 0 := hw2
      subst hw2'
      have HW2 : ∀ ys : List Wd, nums ys = ws2 → Hid (Wl.write (nums ys) = (bs2, 0)) := fun ys h => by rw [h]; exact hp2
      have HG3 : Hid (Wl.read bs2 = ⟨ws2, -1, 0⟩) := hr2
      have HL2 : Hid (bs2.length ≤ 1000000) := by show _ ≤ _; have : bs2.length ≤ 24300 := hl2; omega
      clear hw2 hr2 hp2 hl2
      go_wp2_with fail
      refine (wread_is a0 len0 cap0 xs _ _ S6.out HN0.out (by omega) HG2.out).mono ?_
      intro e v7 h7
      obtain ⟨p7, c7, ys7, rfl, hws7, hnu7, -, hb7⟩ := h7.lay rfl
      have B7 := B6.trans (hb7.mono B6.size)
      have Y7 := Lib.hid hws7
      have NY := Lib.hid hnu7
      clear hws7 hnu7 hb7 h7
      obtain ⟨n7, hn7⟩ : ∃ n, ws2.length = n := ⟨_, rfl⟩
      rw [hn7] at Y7 ⊢
      clear hn7
      go_wp2_with fail
      refine (wwrite_is p7 n7 c7 ys7 _ _ Y7.out (HW2 _ NY.out).out).mono ?_
      intro e v8 h8
      obtain ⟨p8, c8, rfl, hsw8, hnil8, hb8⟩ := h8.lay rfl
      have B8 := B7.trans (hb8.mono B7.size)
      have Y8 := Lib.hid (Y7.out.below hb8 (Nat.le_refl _))
      have Q8 := Lib.hid hsw8
      have QN8 := Lib.hid hnil8
      clear hsw8 hnil8 hb8 h8
      obtain ⟨m8, hm8⟩ : ∃ m, bs2.length = m := ⟨_, rfl⟩
      rw [hm8] at Q8 ⊢
      have hm9 : m8 ≤ 1000000 := by rw [← hm8]; exact HL2.out
      clear hm8
      go_wp2_with fail
      refine (wread_is p8 m8 c8 bs2 _ _ Q8.out QN8.out hm9 HG3.out).mono ?_
      rintro e v9 ⟨p9, n9, c9, zs9, rfl, hws9, hnu9, -, hb9⟩
      have B9 := B8.trans (hb9.mono B8.size)
      have Y9 := Lib.hid (Y8.out.below hb9 (Nat.le_refl _))
      have Z9 := Lib.hid hws9
      have NZ : Hid (nums zs9 = ws2) := hnu9
      clear hws9 hnu9 hb9
      simp only []
      go_wp2_with fail
      refine (sames_is p9 p7 n9 n7 c9 c7 zs9 ys7 true _ Z9.out Y9.out (decide_eq_true (by rw [NZ.out, NY.out]))).mono ?_
      rintro e v10 ⟨rfl, hq10⟩
      have B10 := below_drawn B9 hq10
      clear hq10
      go_wp2
      go_ret
      exact ⟨rfl, B10⟩
    · have HE2 := Lib.hid he2
      have hb := Wl.read_bad (b := xs) (by rw [HG2.out]; exact he2)
      rw [HG2.out] at hb
      obtain ⟨hws, -⟩ := hb
      have hws' : ws2 = [] := hws
      subst hws'
      obtain ⟨bs2, hbs2⟩ : ∃ b : List Int, b = [] := ⟨_, rfl⟩
      have HW2 : ∀ ys : List Wd, nums ys = [] → Hid (Wl.write (nums ys) = (bs2, 0)) := fun ys h => by rw [h, hbs2]; exact (by decide +kernel : Wl.write [] = ([], 0))
      have HG3 : Hid (Wl.read bs2 = ⟨[], -1, 0⟩) := by show _ = _; rw [hbs2]; rfl
      have HL2 : Hid (bs2.length ≤ 1000000) := by show _ ≤ _; rw [hbs2]; simp
      clear hws hbs2 he2
      go_wp2_with fail
      refine (wread_is a0 len0 cap0 xs _ _ S6.out HN0.out (by omega) HG2.out).mono ?_
      intro e v7 h7
      obtain ⟨p7, c7, ys7, rfl, hws7, hnu7, -, hb7⟩ := h7.lay (n := 0) rfl
      have B7 := B6.trans (hb7.mono B6.size)
      have Y7 := Lib.hid hws7
      have NY := Lib.hid hnu7
      clear hws7 hnu7 hb7 h7
      go_wp2_with fail
      refine (wwrite_is p7 _ c7 ys7 _ _ Y7.out (HW2 _ NY.out).out).mono ?_
      intro e v8 h8
      obtain ⟨p8, c8, rfl, hsw8, hnil8, hb8⟩ := h8.lay rfl
      have B8 := B7.trans (hb8.mono B7.size)
      have Y8 := Lib.hid (Y7.out.below hb8 (Nat.le_refl _))
      have Q8 := Lib.hid hsw8
      have QN8 := Lib.hid hnil8
      clear hsw8 hnil8 hb8 h8
      obtain ⟨m8, hm8⟩ : ∃ m, bs2.length = m := ⟨_, rfl⟩
      rw [hm8] at Q8 ⊢
      have hm9 : m8 ≤ 1000000 := by rw [← hm8]; exact HL2.out
      clear hm8
      go_wp2_with fail
      refine (wread_is p8 m8 c8 bs2 _ _ Q8.out QN8.out hm9 HG3.out).mono ?_
      rintro e v9 ⟨p9, n9, c9, zs9, rfl, hws9, hnu9, -, hb9⟩
      have B9 := B8.trans (hb9.mono B8.size)
      have Y9 := Lib.hid (Y8.out.below hb9 (Nat.le_refl _))
      have Z9 := Lib.hid hws9
      have NZ : Hid (nums zs9 = []) := hnu9
      clear hws9 hnu9 hb9
      simp only []
      have hne2 : (er2 != 0) = true := by simpa using HE2.out
      go_wp2
      go_ret
      exact ⟨rfl, B9⟩
  · have HE1 := Lib.hid hwe
    have hb := Wl.write_err (nums x1)
    rw [HP.out] at hb
    have hbs : bs = [] := by
      rcases hb with ⟨h, _⟩ | ⟨_, h⟩
      · exact absurd h hwe
      · exact h
    subst hbs
    have HG1 : Hid (Wl.read [] = ⟨[], -1, 0⟩) := by show _ = _; rfl
    clear hb hwe
    go_wp2_with fail
    refine (wwrite_is a1 len1 cap1 x1 _ _ X1.out HP.out).mono ?_
    intro e v3 h3
    obtain ⟨p3, c3, rfl, hsw3, hnil3, hb3⟩ := h3.lay (n := 0) rfl
    have B3 := B1.trans (hb3.mono B1.size)
    have S3 := Lib.hid (S1.out.below hb3 (Nat.le_refl _))
    have X3 := Lib.hid (X1.out.below hb3 (Nat.le_refl _))
    have P3 := Lib.hid hsw3
    have PN3 := Lib.hid hnil3
    clear hb3 hsw3 hnil3 h3
    go_wp2_with fail
    refine (wread_is p3 0 c3 [] _ _ P3.out PN3.out (by omega) HG1.out).mono ?_
    rintro e v4 ⟨p4, n4, c4, xs4, rfl, hws4, hnu4, -, hb4⟩
    have B4 := B3.trans (hb4.mono B3.size)
    have S4 := Lib.hid (S3.out.below hb4 (Nat.le_refl _))
    have X4 := Lib.hid (X3.out.below hb4 (Nat.le_refl _))
    have W4 := Lib.hid hws4
    have N4 : Hid (nums xs4 = []) := hnu4
    clear hb4 hws4 hnu4
    simp only []
    have hne1 : (we != 0) = true := by simpa using HE1.out
    have B6 := B4
    have S6 := S4
    clear W4 X4 N4 B4 S4
    by_cases he2 : er2 = 0
    · subst he2
      have hw2 := Wl.write_read (b := xs) (by rw [HG2.out])
      rw [HG2.out] at hw2
      obtain ⟨⟨bs2, we2⟩, hp2⟩ : ∃ p, Wl.write ws2 = p := ⟨_, rfl⟩
      have hr2 := Wl.read_write (l := ws2) hw2
      have hl2 := write_len ws2
      rw [hp2] at hw2 hr2 hl2
      have hw2' : we2 = 0 := hw2
      subst hw2'
      have HW2 : ∀ ys : List Wd, nums ys = ws2 → Hid (Wl.write (nums ys) = (bs2, 0)) := fun ys h => by rw [h]; exact hp2
      have HG3 : Hid (Wl.read bs2 = ⟨ws2, -1, 0⟩) := hr2
      have HL2 : Hid (bs2.length ≤ 1000000) := by show _ ≤ _; have : bs2.length ≤ 24300 := hl2; omega
      clear hw2 hr2 hp2 hl2
      go_wp2_with fail
      refine (wread_is a0 len0 cap0 xs _ _ S6.out HN0.out (by omega) HG2.out).mono ?_
      intro e v7 h7
      obtain ⟨p7, c7, ys7, rfl, hws7, hnu7, -, hb7⟩ := h7.lay rfl
      have B7 := B6.trans (hb7.mono B6.size)
      have Y7 := Lib.hid hws7
      have NY := Lib.hid hnu7
      clear hws7 hnu7 hb7 h7
      obtain ⟨n7, hn7⟩ : ∃ n, ws2.length = n := ⟨_, rfl⟩
      rw [hn7] at Y7 ⊢
      clear hn7
      go_wp2_with fail
      refine (wwrite_is p7 n7 c7 ys7 _ _ Y7.out (HW2 _ NY.out).out).mono ?_
      intro e v8 h8
      obtain ⟨p8, c8, rfl, hsw8, hnil8, hb8⟩ := h8.lay rfl
      have B8 := B7.trans (hb8.mono B7.size)
      have Y8 := Lib.hid (Y7.out.below hb8 (Nat.le_refl _))
      have Q8 := Lib.hid hsw8
      have QN8 := Lib.hid hnil8
      clear hsw8 hnil8 hb8 h8
      obtain ⟨m8, hm8⟩ : ∃ m, bs2.length = m := ⟨_, rfl⟩
      rw [hm8] at Q8 ⊢
      have hm9 : m8 ≤ 1000000 := by rw [← hm8]; exact HL2.out
      clear hm8
      go_wp2_with fail
      refine (wread_is p8 m8 c8 bs2 _ _ Q8.out QN8.out hm9 HG3.out).mono ?_
      rintro e v9 ⟨p9, n9, c9, zs9, rfl, hws9, hnu9, -, hb9⟩
      have B9 := B8.trans (hb9.mono B8.size)
      have Y9 := Lib.hid (Y8.out.below hb9 (Nat.le_refl _))
      have Z9 := Lib.hid hws9
      have NZ : Hid (nums zs9 = ws2) := hnu9
      clear hws9 hnu9 hb9
      simp only []
      go_wp2_with fail
      refine (sames_is p9 p7 n9 n7 c9 c7 zs9 ys7 true _ Z9.out Y9.out (decide_eq_true (by rw [NZ.out, NY.out]))).mono ?_
      rintro e v10 ⟨rfl, hq10⟩
      have B10 := below_drawn B9 hq10
      clear hq10
      go_wp2
      go_ret
      exact ⟨rfl, B10⟩
    · have HE2 := Lib.hid he2
      have hb := Wl.read_bad (b := xs) (by rw [HG2.out]; exact he2)
      rw [HG2.out] at hb
      obtain ⟨hws, -⟩ := hb
      have hws' : ws2 = [] := hws
      subst hws'
      obtain ⟨bs2, hbs2⟩ : ∃ b : List Int, b = [] := ⟨_, rfl⟩
      have HW2 : ∀ ys : List Wd, nums ys = [] → Hid (Wl.write (nums ys) = (bs2, 0)) := fun ys h => by rw [h, hbs2]; exact (by decide +kernel : Wl.write [] = ([], 0))
      have HG3 : Hid (Wl.read bs2 = ⟨[], -1, 0⟩) := by show _ = _; rw [hbs2]; rfl
      have HL2 : Hid (bs2.length ≤ 1000000) := by show _ ≤ _; rw [hbs2]; simp
      clear hws hbs2 he2
      go_wp2_with fail
      refine (wread_is a0 len0 cap0 xs _ _ S6.out HN0.out (by omega) HG2.out).mono ?_
      intro e v7 h7
      obtain ⟨p7, c7, ys7, rfl, hws7, hnu7, -, hb7⟩ := h7.lay (n := 0) rfl
      have B7 := B6.trans (hb7.mono B6.size)
      have Y7 := Lib.hid hws7
      have NY := Lib.hid hnu7
      clear hws7 hnu7 hb7 h7
      go_wp2_with fail
      refine (wwrite_is p7 _ c7 ys7 _ _ Y7.out (HW2 _ NY.out).out).mono ?_
      intro e v8 h8
      obtain ⟨p8, c8, rfl, hsw8, hnil8, hb8⟩ := h8.lay rfl
      have B8 := B7.trans (hb8.mono B7.size)
      have Y8 := Lib.hid (Y7.out.below hb8 (Nat.le_refl _))
      have Q8 := Lib.hid hsw8
      have QN8 := Lib.hid hnil8
      clear hsw8 hnil8 hb8 h8
      obtain ⟨m8, hm8⟩ : ∃ m, bs2.length = m := ⟨_, rfl⟩
      rw [hm8] at Q8 ⊢
      have hm9 : m8 ≤ 1000000 := by rw [← hm8]; exact HL2.out
      clear hm8
      go_wp2_with fail
      refine (wread_is p8 m8 c8 bs2 _ _ Q8.out QN8.out hm9 HG3.out).mono ?_
      rintro e v9 ⟨p9, n9, c9, zs9, rfl, hws9, hnu9, -, hb9⟩
      have B9 := B8.trans (hb9.mono B8.size)
      have Y9 := Lib.hid (Y8.out.below hb9 (Nat.le_refl _))
      have Z9 := Lib.hid hws9
      have NZ : Hid (nums zs9 = []) := hnu9
      clear hws9 hnu9 hb9
      simp only []
      have hne2 : (er2 != 0) = true := by simpa using HE2.out
      go_wp2
      go_ret
      exact ⟨rfl, B9⟩

set_option maxRecDepth 100000 in
theorem lifted (os : Os) (started : os.Started) (H : Type) (enc : TypeId × Value → H) :
    ReturnsInHanded {} Try.checked os 4 .any (Rows.wordsBackSpec.pre6 enc Try.prog Try.f4 Rows.wordsBackRow.domain false) (Rows.wordsBackSpec.post enc Try.prog Try.f4 false true false false) := by
  refine returnsInHanded_of_change (C := Try.checked) own started (by kernel_rfl) Try.func4
    (ChangeSpec.witness6 (enc := enc) (C := Try.checked) false ⟨#[], #[.slice none 0 0, .slice none 0 0], []⟩ 8 (by kernel_rfl) (by kernel_rfl) (by kernel_rfl) (by kernel_rfl)) ?_
  intro W base args ds gs before hval0 hW hcnd _
  have hval : ∀ (j : Nat) t v, Try.f4.params[j]? = some t → args[j]? = some v → Value.okWide Try.prog W .any base t v := hval0
  have hW' := hW
  obtain ⟨p, q, hA0, hV, rfl, hfz, hnd⟩ := hW
  have hA : DataW.TrodAll enc Try.prog W 0 (fun _ => true) true Try.f4.params.toList args.toList ds p := hA0
  rw [Try.params4] at hA hval
  obtain ⟨v0, vs0, d0, ds0, p0, q0, hargs, rfl, rfl, h0, r0⟩ := trodAll_cons hA
  obtain ⟨v1, vs1, d1, ds1, p1, q1, rfl, rfl, rfl, h1, r1⟩ := trodAll_cons r0
  obtain ⟨rfl, rfl, rfl⟩ := trodAll_nil r1
  obtain rfl : args = #[v0, v1] := by cases args; simp_all
  obtain ⟨rfl, rfl⟩ := trodVars_none hV
  obtain ⟨a0, len0, cap0, rfl⟩ := okWide_slice Try.underlying22 (hval 0 22 v0 rfl rfl)
  have k0 := h0
  have lt0 : ∀ x ∈ p0, x.block < W.heap.size := by obtain ⟨m, hm⟩ := k0; exact DataW.trod_lt m _ _ _ hm
  obtain ⟨z0, w0⟩ : ∃ zs, IsRow .u8 W a0 len0 cap0 zs := by
    obtain ⟨fuel, hf⟩ := h0
    rcases open_ints Try.underlying22 Try.underlying5 (by kernel_rfl) hf with ⟨hcs, _⟩ | ⟨x, l, c, zs, hcs, _, hl, hm, hz, _, hcell, hwz⟩
    · simp [Value.cells] at hcs
      obtain ⟨rfl, rfl, rfl⟩ := hcs
      exact ⟨[], .inl ⟨rfl, rfl, rfl, rfl⟩⟩
    · simp [Value.cells] at hcs
      obtain ⟨rfl, rfl, rfl⟩ := hcs
      exact ⟨zs, .inr ⟨_, rfl, hl, hm, by simpa using hz, hcell, hwz⟩⟩
  obtain ⟨a1, len1, cap1, rfl⟩ := okWide_slice Try.underlying23 (hval 1 23 v1 rfl rfl)
  have k1 := h1
  have lt1 : ∀ x ∈ p1, x.block < W.heap.size := by obtain ⟨m, hm⟩ := k1; exact DataW.trod_lt m _ _ _ hm
  obtain ⟨x1, w1, n1⟩ : ∃ xs, Ws W a1 len1 cap1 xs ∧ (a1 = none → cap1 = 0) := by
    obtain ⟨fuel, hf⟩ := h1
    rcases Go.Deep.open_int_rows Try.underlying23 Try.underlying24 Try.underlying3 (by kernel_rfl) (by kernel_rfl) hf with ⟨hcs, _⟩ | ⟨x, l, c, A, L, C, Z, hcs, _, hl, hm, _, hr⟩
    · simp [Value.cells] at hcs
      obtain ⟨rfl, rfl, rfl⟩ := hcs
      exact ⟨[], Ws.nil, fun _ => rfl⟩
    · simp [Value.cells] at hcs
      obtain ⟨rfl, rfl, rfl⟩ := hcs
      exact ⟨_, Ws.of_rows hl hm hr, fun h => by cases h⟩
  clear hA0 hval0
  refine (walk a0 len0 cap0 z0 a1 len1 cap1 x1 W w0 w1 n1).mono fun e W' ⟨he, bel⟩ => ?_
  subst he
  exact ⟨_, rfl, _, _, _, [], _, [], hW', trodAll_mk1 (shut_bool Try.underlying4 _), (trodAll_cons_mk (Below.trod laidOut (by kernel_rfl) (of_decide_eq_true (by kernel_rfl)) k0 bel lt0) (trodAll_cons_mk (Below.trod laidOut (by kernel_rfl) (of_decide_eq_true (by kernel_rfl)) k1 bel lt1) trodAll_mk0)), rfl, bel.frame _, fun h => by cases h⟩

theorem over : Rows.wordsBackRow.holds Try.pinned (OpenSpec.ofChange Rows.wordsBackSpec) :=
  OpenClaim.holds_of_wide 4 Try.f4 rfl rfl rfl rfl rfl rfl rfl ⟨rfl, rfl, rfl, rfl, rfl⟩ rfl rfl rfl rfl rfl (by kernel_rfl) Try.func4 (by kernel_rfl)
    (of_decide_eq_true (by kernel_rfl)) (by unfold Func.isWrapper; first | (rw [if_pos (by decide +kernel)]; kernel_rfl) | (rw [if_neg (by decide +kernel)]; exact ⟨rfl, rfl⟩))
    (fun os started H enc _ => lifted os started H enc)

/-- the statement -/
theorem proved : Rows.WordsBackSaid := over
#print axioms proved
end Go.Proofs.Ytflikfnehpaohaa.wordsBack
