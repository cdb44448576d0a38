/- For every two lists, WordsJoins answers true, and turns nothing that was there. No condition. -/
import Derived.Test.YtflikfnehpaohaaRows
import Derived.Test.YtflikfnehpaohaaWordAwake
import Derived.WalkKit
import Derived.ProofKit
import Derived.OpenShut
import Derived.ShutString
import Derived.ChangeOld
import Derived.Below
import Derived.Deep.Matrix
import Derived.SizedLaws
namespace Go.Proofs.Ytflikfnehpaohaa.wordsJoins
open Go.ChangeShapes Go.WideShapes Go.ChangeAt Go.RowKit
set_option linter.unusedVariables false

theorem own : ownKnob Try.prog.godebug = none := by kernel_rfl
theorem laidOut : laidOutB Try.prog = true := by kernel_rfl

/-- a slice of integers that came in -/
def IsRow (k : IntKind) (w : World) (a : Option Addr) (len cap : Nat) (zs : List Int) : Prop :=
  (a = none ∧ len = 0 ∧ cap = 0 ∧ zs = []) ∨
  ∃ x, a = some x ∧ len ≤ cap ∧ cap ≤ maxLen ∧ zs.length = cap ∧ (∀ i, i < zs.length → w.cell? (x.add i) = some (.int k (zs.getD i 0))) ∧ ∀ n ∈ zs, (Lit.int k n).wf = true

theorem splitA_ten : ∀ (a cur : List Int), Line.splitA cur (a ++ [10]) = Line.splitA cur a ∨ Line.splitA cur (a ++ [10]) = Line.splitA cur a ++ [[]]
  | [], cur => by
    by_cases h : cur = []
    · subst h; right; rfl
    · left; simp [Line.splitA, h]
  | c :: cs, cur => by
    rw [List.cons_append, Line.splitA, Line.splitA]
    by_cases h : c = 10
    · rw [if_pos h, if_pos h]
      rcases splitA_ten cs [] with e | e
      · left; rw [e]
      · right; rw [e]; rfl
    · rw [if_neg h, if_neg h]
      exact splitA_ten cs (cur ++ [c])
theorem said_ten (a : List Int) : Wl.said (Line.split (a ++ [10])) = Wl.said (Line.split a) ∧ (Wl.Ok (Line.split a) → Wl.Ok (Line.split (a ++ [10]))) := by
  have hb : Line.bare [] = true := by decide
  rcases splitA_ten a [] with e | e
  · have e' : Line.split (a ++ [10]) = Line.split a := e
    rw [e']; exact ⟨rfl, id⟩
  · have e' : Line.split (a ++ [10]) = Line.split a ++ [[]] := e
    rw [e', Wl.said_app, Wl.said_bare hb]
    refine ⟨by simp [Wl.said], fun h x hx hbx => ?_⟩
    rcases List.mem_append.1 hx with hx | hx
    · exact h x hx hbx
    · simp only [List.mem_singleton] at hx; subst hx; rw [hb] at hbx; cases hbx
theorem wjoins {a b : List Int} (ha : (Wl.read a).e = 0) (hb : (Wl.read b).e = 0) :
    ((srt ((Wl.read a).ws ++ (Wl.read b).ws)).length ≤ 300 ∧ Wl.read (a ++ [10] ++ b) = ⟨srt ((Wl.read a).ws ++ (Wl.read b).ws), -1, 0⟩) ∨
      (300 < (srt ((Wl.read a).ws ++ (Wl.read b).ws)).length ∧ ∃ k : Nat, Wl.read (a ++ [10] ++ b) = ⟨[], (k : Int), 81⟩) := by
  obtain ⟨a1, a2, -⟩ := Wl.read_ok ha
  obtain ⟨b1, b2, -⟩ := Wl.read_ok hb
  obtain ⟨s1, s2⟩ := said_ten a
  have hsp : Line.split (a ++ [10] ++ b) = Line.split (a ++ [10]) ++ Line.split b := Line.split_join a b
  have hok : Wl.Ok (Line.split (a ++ [10] ++ b)) := by
    rw [hsp]
    intro x hx hbx
    rcases List.mem_append.1 hx with hx | hx
    · exact s2 a1 x hx hbx
    · exact b1 x hx hbx
  have hsaid : srt (Wl.said (Line.split (a ++ [10] ++ b))) = srt ((Wl.read a).ws ++ (Wl.read b).ws) := by
    rw [hsp, Wl.said_app, s1, a2, b2]
    exact srt_congr fun x => by simp only [List.mem_append, mem_srt]
  rcases Wl.readA_all (Line.split (a ++ [10] ++ b)) 0 [] hok with ⟨h1, h2⟩ | ⟨h1, h2⟩
  · left
    have h1' : (srt (Wl.said (Line.split (a ++ [10] ++ b)))).length ≤ 300 := h1
    rw [hsaid] at h1'
    refine ⟨h1', ?_⟩
    rw [← hsaid]; exact h2
  · right
    have h1' : 300 < (srt (Wl.said (Line.split (a ++ [10] ++ b)))).length := h1
    rw [hsaid] at h1'
    have h3 : (Wl.read (a ++ [10] ++ b)).e = 81 := h2 (by simp)
    obtain ⟨e1, k, -, e2, -⟩ := Wl.read_bad (b := a ++ [10] ++ b) (by rw [h3]; decide)
    refine ⟨h1', k, ?_⟩
    rw [← h3, ← e1, ← e2]
theorem short_of {w : World} {a : Option Addr} {n c : Nat} {xs : List Wd} (h : Ws w a n c xs) (hf : ∀ z ∈ nums xs, Wl.fit z = true) : Short xs := by
  intro x hx
  have h1 := (h.2.2.2.1 x hx).1
  have h2 := (Wl.fit_parts (hf x.zs (List.mem_map.2 ⟨x, hx, rfl⟩))).2.1
  omega

/-! ### STEP 1: the walk -/
set_option maxHeartbeats 6400000 in
set_option maxRecDepth 100000 in
theorem walk (a0 : Option Addr) (len0 cap0 : Nat) (z0 : List Int) (a1 : Option Addr) (len1 cap1 : Nat) (z1 : List Int) (w : World) (w0 : IsRow .u8 w a0 len0 cap0 z0) (w1 : IsRow .u8 w a1 len1 cap1 z1) :
    Calls Try.prog 6 #[.slice a0 len0 cap0, .slice a1 len1 cap1] w fun e w' => e = .returned (.bool true) ∧ Below w.heap.size w w' := by
  have hn00 : a0 = none → cap0 = 0 := by
    rcases w0 with ⟨_, _, h, _⟩ | ⟨x, h, _⟩
    · exact fun _ => h
    · intro h'; rw [h] at h'; cases h'
  have HN0 := Lib.hid hn00
  clear hn00
  have hs0 := Sl.of_row w0
  generalize z0.take len0 = xs at hs0
  have hcm0 := hs0.2.2.1
  have hnc0 := hs0.2.1
  unfold maxLen at hcm0
  have HS0 := Lib.hid hs0
  have HLEN0 := Lib.hid hs0.1
  clear hs0 w0
  have hn10 : a1 = none → cap1 = 0 := by
    rcases w1 with ⟨_, _, h, _⟩ | ⟨x, h, _⟩
    · exact fun _ => h
    · intro h'; rw [h] at h'; cases h'
  have HN1 := Lib.hid hn10
  clear hn10
  have hs1 := Sl.of_row w1
  generalize z1.take len1 = ys at hs1
  have hcm1 := hs1.2.2.1
  have hnc1 := hs1.2.1
  unfold maxLen at hcm1
  have HS1 := Lib.hid hs1
  have HLEN1 := Lib.hid hs1.1
  clear hs1 w1
  obtain ⟨⟨ws3, at3, er3⟩, hg3⟩ : ∃ g, Wl.read xs = g := ⟨_, rfl⟩
  obtain ⟨⟨ws4, at4, er4⟩, hg4⟩ : ∃ g, Wl.read ys = g := ⟨_, rfl⟩
  have HG3 := Lib.hid hg3
  have HG4 := Lib.hid hg4
  clear hg3 hg4
  go_enter Try.func6, Try.ntmps6
  go_wp2_with fail
  refine (awake_any _).mono ?_
  rintro e v1 ⟨rfl, B1⟩
  have S1 := Lib.hid (HS0.out.below B1 (Nat.le_refl _))
  have T1 := Lib.hid (HS1.out.below B1 (Nat.le_refl _))
  by_cases g0 : 2000 < len0
  · have hi0 : (2000 : Int) < (len0 : Int) := by omega
    go_wp2
    go_ret
    exact ⟨rfl, B1⟩
  have hi0 : decide ((2000 : Int) < (len0 : Int)) = false := by simp; omega
  by_cases g1 : 2000 < len1
  · have hi1 : (2000 : Int) < (len1 : Int) := by omega
    go_wp2
    go_ret
    exact ⟨rfl, B1⟩
  have hi1 : decide ((2000 : Int) < (len1 : Int)) = false := by simp; omega
  go_wp2_with fail
  refine (wread_is a0 len0 cap0 xs _ _ S1.out HN0.out (by omega) HG3.out).mono ?_
  rintro e v3 ⟨p3, n3, c3, xs3, rfl, hws3, hnu3, hnil3, hb3⟩
  have B3 := B1.trans (hb3.mono B1.size)
  have S3 := Lib.hid (S1.out.below hb3 (Nat.le_refl _))
  have T3 := Lib.hid (T1.out.below hb3 (Nat.le_refl _))
  have XX3 := Lib.hid hws3
  have NX : Hid (nums xs3 = ws3) := hnu3
  have XN3 := Lib.hid hnil3
  clear hb3 hws3 hnu3 hnil3
  simp only []
  go_wp2_with fail
  refine (wread_is a1 len1 cap1 ys _ _ T3.out HN1.out (by omega) HG4.out).mono ?_
  rintro e v4 ⟨p4, n4, c4, xs4, rfl, hws4, hnu4, hnil4, hb4⟩
  have B4 := B3.trans (hb4.mono B3.size)
  have S4 := Lib.hid (S3.out.below hb4 (Nat.le_refl _))
  have T4 := Lib.hid (T3.out.below hb4 (Nat.le_refl _))
  have XX4 := Lib.hid (XX3.out.below hb4 (Nat.le_refl _))
  have YY4 := Lib.hid hws4
  have NY : Hid (nums xs4 = ws4) := hnu4
  have YN4 := Lib.hid hnil4
  clear hb4 hws4 hnu4 hnil4
  simp only []
  by_cases he3 : er3 = 0
  · subst he3
    by_cases he4 : er4 = 0
    · subst he4
      have hx := Wl.read_ok (b := xs) (by rw [HG3.out])
      have hy := Wl.read_ok (b := ys) (by rw [HG4.out])
      have hj := wjoins (a := xs) (b := ys) (by rw [HG3.out]) (by rw [HG4.out])
      rw [HG3.out] at hx hj
      rw [HG4.out] at hy hj
      obtain ⟨-, -, -, hx4, -, hx6⟩ := hx
      obtain ⟨-, -, -, hy4, -, hy6⟩ := hy
      simp only at hj
      obtain ⟨sall, hsall⟩ : ∃ s, srt (ws3 ++ ws4) = s := ⟨_, rfl⟩
      rw [hsall] at hj
      have HALL := Lib.hid hsall
      have hn3 : n3 ≤ 300 := by rw [← XX4.out.1, ← nums_length, NX.out]; exact hx4
      have hn4 : n4 ≤ 300 := by rw [← YY4.out.1, ← nums_length, NY.out]; exact hy4
      have HSX : Hid (Short xs3) := short_of XX4.out (by rw [NX.out]; exact hx6)
      have HSY : Hid (Short xs4) := short_of YY4.out (by rw [NY.out]; exact hy6)
      clear hx4 hx6 hy4 hy6 hsall
      rcases hj with ⟨hfew, hz⟩ | ⟨hmany, k, hz⟩
      · have HFEW := Lib.hid hfew
        have HZ := Lib.hid hz
        clear hfew hz
        go_wp2_with (first
          | (at_builtin; refine append_bytes (by rfl) (.tmp 46) (.tmp 47) (by rfl) v4.heap.size _ 0 [] (by rfl) (owns0_bytes v4) a0 len0 cap0 xs (by rfl) (S4.out.alloc _) len0 (by omega) (by omega) (by rw [World.size_alloc]; omega) ?_; intro af cf vf hownf hbf hnilf; simp only [List.nil_append] at hownf; have Df : Below v4.heap.size v4 vf := ((Below.refl _ v4).alloc (Nat.le_refl _) _).trans (hbf.mono (by first | exact Nat.le_refl _ | (rw [World.size_alloc]; omega))); have Of := Lib.hid hownf; have Ef := Lib.hid Df; have Gf := Df.size; clear hownf hbf hnilf Df)
          | (at_builtin; refine append_bytes (by rfl) (.tmp 48) (.tmp 49) (by rfl) v4.heap.size _ len0 xs (by rfl) (Of.out.alloc _) (some ⟨vf.heap.size, 0, none⟩) 1 1 [10] (by rfl) (Sl.newB [10] (by decide) (by unfold maxLen; simp) rfl rfl rfl) (len0 + 1) rfl (by omega) (by rw [World.size_alloc]; omega) ?_; intro ag cg vg howng hbg hnilg; have Dg : Below v4.heap.size v4 vg := (Ef.out.alloc Gf _).trans (hbg.mono (by first | exact Nat.le_refl _ | (rw [World.size_alloc]; omega))); have Og := Lib.hid howng; have Eg := Lib.hid Dg; have Gg := Dg.size; clear howng hbg hnilg Dg)
          | (at_builtin; refine append_bytes (by rfl) (.tmp 50) (.tmp 51) (by rfl) v4.heap.size _ (len0 + 1) (xs ++ [10]) (by rfl) Og.out a1 len1 cap1 ys (by rfl) (T4.out.below Eg.out (Nat.le_refl _)) (len0 + 1 + len1) rfl (by omega) Gg ?_; intro ah ch vh hownh hbh hnilh; have Dh : Below v4.heap.size v4 vh := Eg.out.trans (hbh.mono (by first | exact Nat.le_refl _ | exact Gg)); have Oh := Lib.hid hownh; have Eh := Lib.hid Dh; have HNh := Lib.hid hnilh; clear hownh hbh hnilh Dh))
        have hlh : (xs ++ [10] ++ ys).length = len0 + 1 + len1 := by rw [List.length_append, List.length_append, HLEN0.out, HLEN1.out]; rfl
        have Sh : Hid (Sl .u8 vh ah (len0 + 1 + len1) ch (xs ++ [10] ++ ys)) := Sl.of_owns Oh.out (fun z hz => by
          rcases List.mem_append.1 hz with hz | hz
          · rcases List.mem_append.1 hz with hz | hz
            · exact S4.out.2.2.2.1 z hz
            · simp only [List.mem_singleton] at hz; subst hz; decide
          · exact T4.out.2.2.2.1 z hz) hlh
        have hbx : Below v4.heap.size v4 vh := Eh.out
        have B5 := B4.trans (hbx.mono B4.size)
        clear hlh
        refine (wread_is ah (len0 + 1 + len1) ch (xs ++ [10] ++ ys) _ _ Sh.out HNh.out (by omega) HZ.out).mono ?_
        intro e v6 h6
        obtain ⟨p6, n6, c6, zs6, rfl, hws6, hnu6, -, hb6⟩ := h6
        simp only []
        have B6 := B5.trans (hb6.mono B5.size)
        have XX6 := Lib.hid (XX4.out.below (hbx.trans (hb6.mono hbx.size)) (Nat.le_refl _))
        have YY6 := Lib.hid (YY4.out.below (hbx.trans (hb6.mono hbx.size)) (Nat.le_refl _))
        have Z6 := Lib.hid hws6
        have NZ := Lib.hid hnu6
        clear hws6 hnu6 hb6 hbx B5
        go_wp2_with (first
          | (at_builtin; refine append_words rfl (.tmp 57) (.tmp 58) (by rfl) v6.heap.size _ 0 [] (by rfl) (owns0 v6) p3 n3 c3 xs3 (by rfl) (XX6.out.alloc _) XN3.out n3 (by omega) (by omega) (by rw [World.size_alloc]; omega) ?_; intro a7 c7 v7 hown7 hb7 hnil7; simp only [List.nil_append] at hown7; have D7 : Below v6.heap.size v6 v7 := ((Below.refl _ v6).alloc (Nat.le_refl _) _).trans (hb7.mono (by first | exact Nat.le_refl _ | (rw [World.size_alloc]; omega))); have O7 := Lib.hid hown7; have E7 := Lib.hid D7; have G7 := D7.size; clear hown7 hb7 hnil7 D7)
          | (at_builtin; refine append_words rfl (.tmp 59) (.tmp 60) (by rfl) v6.heap.size _ n3 xs3 (by rfl) O7.out p4 n4 c4 xs4 (by rfl) (YY6.out.below E7.out (Nat.le_refl _)) YN4.out (n3 + n4) rfl (by omega) G7 ?_; intro a8 c8 v8 hown8 hb8 hnil8; have D8 : Below v6.heap.size v6 v8 := E7.out.trans (hb8.mono (by first | exact Nat.le_refl _ | exact G7)); have O8 := Lib.hid hown8; have E8 := Lib.hid D8; clear hown8 hb8 hnil8 D8))
        have HWS8 : Hid (Ws v8 a8 (n3 + n4) c8 (xs3 ++ xs4)) := Ws.of_owns O8.out (fun x hx => by
          rcases List.mem_append.1 hx with hx | hx
          · exact (XX6.out.2.2.2.1 x hx).below E8.out (Nat.le_refl _)
          · exact (YY6.out.2.2.2.1 x hx).below E8.out (Nat.le_refl _)) (by rw [List.length_append, XX6.out.1, YY6.out.1])
        have HSH : Hid (Short (xs3 ++ xs4)) := fun x hx => by
          rcases List.mem_append.1 hx with hx | hx
          · exact HSX.out x hx
          · exact HSY.out x hx
        refine (sort_any a8 (n3 + n4) c8 (xs3 ++ xs4) v8 HWS8.out HSH.out (by omega)).mono ?_
        rintro e v9 ⟨p9, n9, c9, ys9, rfl, hws9, hnu9, -, -, hb9⟩
        have B9 := B6.trans ((E8.out.trans (hb9.mono E8.out.size)).mono B6.size)
        have Z9 := Lib.hid (Z6.out.below (E8.out.trans (hb9.mono E8.out.size)) (Nat.le_refl _))
        have HN9 : Hid (nums ys9 = sall) := by show _ = _; rw [hnu9, nums_app, NX.out, NY.out]; exact HALL.out
        have HL9 : Hid (sall.length = n9) := by show _ = _; rw [← HN9.out, nums_length]; exact hws9.1
        have Y9 := Lib.hid hws9
        clear hws9 hnu9 hb9
        have h300 : ¬ (300 : Int) < (n9 : Int) := by have h := HL9.out; have h2 : sall.length ≤ 300 := HFEW.out; omega
        go_wp2_with fail
        refine (sames_is p6 p9 n6 n9 c6 c9 zs6 ys9 true _ Z9.out Y9.out (decide_eq_true (by rw [NZ.out, HN9.out]))).mono ?_
        rintro e v10 ⟨rfl, hq10⟩
        have B10 := below_drawn B9 hq10
        clear hq10
        go_wp2
        go_ret
        exact ⟨rfl, B10⟩
      · have HMANY := Lib.hid hmany
        have HZ := Lib.hid hz
        clear hmany hz
        go_wp2_with (first
          | (at_builtin; refine append_bytes (by rfl) (.tmp 46) (.tmp 47) (by rfl) v4.heap.size _ 0 [] (by rfl) (owns0_bytes v4) a0 len0 cap0 xs (by rfl) (S4.out.alloc _) len0 (by omega) (by omega) (by rw [World.size_alloc]; omega) ?_; intro af cf vf hownf hbf hnilf; simp only [List.nil_append] at hownf; have Df : Below v4.heap.size v4 vf := ((Below.refl _ v4).alloc (Nat.le_refl _) _).trans (hbf.mono (by first | exact Nat.le_refl _ | (rw [World.size_alloc]; omega))); have Of := Lib.hid hownf; have Ef := Lib.hid Df; have Gf := Df.size; clear hownf hbf hnilf Df)
          | (at_builtin; refine append_bytes (by rfl) (.tmp 48) (.tmp 49) (by rfl) v4.heap.size _ len0 xs (by rfl) (Of.out.alloc _) (some ⟨vf.heap.size, 0, none⟩) 1 1 [10] (by rfl) (Sl.newB [10] (by decide) (by unfold maxLen; simp) rfl rfl rfl) (len0 + 1) rfl (by omega) (by rw [World.size_alloc]; omega) ?_; intro ag cg vg howng hbg hnilg; have Dg : Below v4.heap.size v4 vg := (Ef.out.alloc Gf _).trans (hbg.mono (by first | exact Nat.le_refl _ | (rw [World.size_alloc]; omega))); have Og := Lib.hid howng; have Eg := Lib.hid Dg; have Gg := Dg.size; clear howng hbg hnilg Dg)
          | (at_builtin; refine append_bytes (by rfl) (.tmp 50) (.tmp 51) (by rfl) v4.heap.size _ (len0 + 1) (xs ++ [10]) (by rfl) Og.out a1 len1 cap1 ys (by rfl) (T4.out.below Eg.out (Nat.le_refl _)) (len0 + 1 + len1) rfl (by omega) Gg ?_; intro ah ch vh hownh hbh hnilh; have Dh : Below v4.heap.size v4 vh := Eg.out.trans (hbh.mono (by first | exact Nat.le_refl _ | exact Gg)); have Oh := Lib.hid hownh; have Eh := Lib.hid Dh; have HNh := Lib.hid hnilh; clear hownh hbh hnilh Dh))
        have hlh : (xs ++ [10] ++ ys).length = len0 + 1 + len1 := by rw [List.length_append, List.length_append, HLEN0.out, HLEN1.out]; rfl
        have Sh : Hid (Sl .u8 vh ah (len0 + 1 + len1) ch (xs ++ [10] ++ ys)) := Sl.of_owns Oh.out (fun z hz => by
          rcases List.mem_append.1 hz with hz | hz
          · rcases List.mem_append.1 hz with hz | hz
            · exact S4.out.2.2.2.1 z hz
            · simp only [List.mem_singleton] at hz; subst hz; decide
          · exact T4.out.2.2.2.1 z hz) hlh
        have hbx : Below v4.heap.size v4 vh := Eh.out
        have B5 := B4.trans (hbx.mono B4.size)
        clear hlh
        refine (wread_is ah (len0 + 1 + len1) ch (xs ++ [10] ++ ys) _ _ Sh.out HNh.out (by omega) HZ.out).mono ?_
        intro e v6 h6
        obtain ⟨p6, c6, zs6, rfl, hws6, hnu6, -, hb6⟩ := h6.lay (n := 0) rfl
        have B6 := B5.trans (hb6.mono B5.size)
        have XX6 := Lib.hid (XX4.out.below (hbx.trans (hb6.mono hbx.size)) (Nat.le_refl _))
        have YY6 := Lib.hid (YY4.out.below (hbx.trans (hb6.mono hbx.size)) (Nat.le_refl _))
        have Z6 := Lib.hid hws6
        have NZ := Lib.hid hnu6
        clear hws6 hnu6 hb6 hbx h6 B5
        go_wp2_with (first
          | (at_builtin; refine append_words rfl (.tmp 57) (.tmp 58) (by rfl) v6.heap.size _ 0 [] (by rfl) (owns0 v6) p3 n3 c3 xs3 (by rfl) (XX6.out.alloc _) XN3.out n3 (by omega) (by omega) (by rw [World.size_alloc]; omega) ?_; intro a7 c7 v7 hown7 hb7 hnil7; simp only [List.nil_append] at hown7; have D7 : Below v6.heap.size v6 v7 := ((Below.refl _ v6).alloc (Nat.le_refl _) _).trans (hb7.mono (by first | exact Nat.le_refl _ | (rw [World.size_alloc]; omega))); have O7 := Lib.hid hown7; have E7 := Lib.hid D7; have G7 := D7.size; clear hown7 hb7 hnil7 D7)
          | (at_builtin; refine append_words rfl (.tmp 59) (.tmp 60) (by rfl) v6.heap.size _ n3 xs3 (by rfl) O7.out p4 n4 c4 xs4 (by rfl) (YY6.out.below E7.out (Nat.le_refl _)) YN4.out (n3 + n4) rfl (by omega) G7 ?_; intro a8 c8 v8 hown8 hb8 hnil8; have D8 : Below v6.heap.size v6 v8 := E7.out.trans (hb8.mono (by first | exact Nat.le_refl _ | exact G7)); have O8 := Lib.hid hown8; have E8 := Lib.hid D8; clear hown8 hb8 hnil8 D8))
        have HWS8 : Hid (Ws v8 a8 (n3 + n4) c8 (xs3 ++ xs4)) := Ws.of_owns O8.out (fun x hx => by
          rcases List.mem_append.1 hx with hx | hx
          · exact (XX6.out.2.2.2.1 x hx).below E8.out (Nat.le_refl _)
          · exact (YY6.out.2.2.2.1 x hx).below E8.out (Nat.le_refl _)) (by rw [List.length_append, XX6.out.1, YY6.out.1])
        have HSH : Hid (Short (xs3 ++ xs4)) := fun x hx => by
          rcases List.mem_append.1 hx with hx | hx
          · exact HSX.out x hx
          · exact HSY.out x hx
        refine (sort_any a8 (n3 + n4) c8 (xs3 ++ xs4) v8 HWS8.out HSH.out (by omega)).mono ?_
        rintro e v9 ⟨p9, n9, c9, ys9, rfl, hws9, hnu9, -, -, hb9⟩
        have B9 := B6.trans ((E8.out.trans (hb9.mono E8.out.size)).mono B6.size)
        have Z9 := Lib.hid (Z6.out.below (E8.out.trans (hb9.mono E8.out.size)) (Nat.le_refl _))
        have HN9 : Hid (nums ys9 = sall) := by show _ = _; rw [hnu9, nums_app, NX.out, NY.out]; exact HALL.out
        have HL9 : Hid (sall.length = n9) := by show _ = _; rw [← HN9.out, nums_length]; exact hws9.1
        have Y9 := Lib.hid hws9
        clear hws9 hnu9 hb9
        have h300 : (300 : Int) < (n9 : Int) := by have h := HL9.out; have h2 : 300 < sall.length := HMANY.out; omega
        have hk0 : (0 : Int) ≤ (k : Int) := by omega
        go_wp2
        go_ret
        exact ⟨rfl, B9⟩
    · have hne : (er4 != 0) = true := by simpa using he4
      go_wp2
      go_ret
      exact ⟨rfl, B4⟩
  · have hne : (er3 != 0) = true := by simpa using he3
    go_wp2
    go_ret
    exact ⟨rfl, B4⟩

set_option maxRecDepth 100000 in
theorem lifted (os : Os) (started : os.Started) (H : Type) (enc : TypeId × Value → H) :
    ReturnsInHanded {} Try.checked os 6 .any (Rows.wordsJoinsSpec.pre6 enc Try.prog Try.f6 Rows.wordsJoinsRow.domain false) (Rows.wordsJoinsSpec.post enc Try.prog Try.f6 false true false false) := by
  refine returnsInHanded_of_change (C := Try.checked) own started (by kernel_rfl) Try.func6
    (ChangeSpec.witness6 (enc := enc) (C := Try.checked) false ⟨#[], #[.slice none 0 0, .slice none 0 0], []⟩ 8 (by kernel_rfl) (by kernel_rfl) (by kernel_rfl) (by kernel_rfl)) ?_
  intro W base args ds gs before hval0 hW hcnd _
  have hval : ∀ (j : Nat) t v, Try.f6.params[j]? = some t → args[j]? = some v → Value.okWide Try.prog W .any base t v := hval0
  have hW' := hW
  obtain ⟨p, q, hA0, hV, rfl, hfz, hnd⟩ := hW
  have hA : DataW.TrodAll enc Try.prog W 0 (fun _ => true) true Try.f6.params.toList args.toList ds p := hA0
  rw [Try.params6] at hA hval
  obtain ⟨v0, vs0, d0, ds0, p0, q0, hargs, rfl, rfl, h0, r0⟩ := trodAll_cons hA
  obtain ⟨v1, vs1, d1, ds1, p1, q1, rfl, rfl, rfl, h1, r1⟩ := trodAll_cons r0
  obtain ⟨rfl, rfl, rfl⟩ := trodAll_nil r1
  obtain rfl : args = #[v0, v1] := by cases args; simp_all
  obtain ⟨rfl, rfl⟩ := trodVars_none hV
  obtain ⟨a0, len0, cap0, rfl⟩ := okWide_slice Try.underlying22 (hval 0 22 v0 rfl rfl)
  have k0 := h0
  have lt0 : ∀ x ∈ p0, x.block < W.heap.size := by obtain ⟨m, hm⟩ := k0; exact DataW.trod_lt m _ _ _ hm
  obtain ⟨z0, w0⟩ : ∃ zs, IsRow .u8 W a0 len0 cap0 zs := by
    obtain ⟨fuel, hf⟩ := h0
    rcases open_ints Try.underlying22 Try.underlying5 (by kernel_rfl) hf with ⟨hcs, _⟩ | ⟨x, l, c, zs, hcs, _, hl, hm, hz, _, hcell, hwz⟩
    · simp [Value.cells] at hcs
      obtain ⟨rfl, rfl, rfl⟩ := hcs
      exact ⟨[], .inl ⟨rfl, rfl, rfl, rfl⟩⟩
    · simp [Value.cells] at hcs
      obtain ⟨rfl, rfl, rfl⟩ := hcs
      exact ⟨zs, .inr ⟨_, rfl, hl, hm, by simpa using hz, hcell, hwz⟩⟩
  obtain ⟨a1, len1, cap1, rfl⟩ := okWide_slice Try.underlying22 (hval 1 22 v1 rfl rfl)
  have k1 := h1
  have lt1 : ∀ x ∈ p1, x.block < W.heap.size := by obtain ⟨m, hm⟩ := k1; exact DataW.trod_lt m _ _ _ hm
  obtain ⟨z1, w1⟩ : ∃ zs, IsRow .u8 W a1 len1 cap1 zs := by
    obtain ⟨fuel, hf⟩ := h1
    rcases open_ints Try.underlying22 Try.underlying5 (by kernel_rfl) hf with ⟨hcs, _⟩ | ⟨x, l, c, zs, hcs, _, hl, hm, hz, _, hcell, hwz⟩
    · simp [Value.cells] at hcs
      obtain ⟨rfl, rfl, rfl⟩ := hcs
      exact ⟨[], .inl ⟨rfl, rfl, rfl, rfl⟩⟩
    · simp [Value.cells] at hcs
      obtain ⟨rfl, rfl, rfl⟩ := hcs
      exact ⟨zs, .inr ⟨_, rfl, hl, hm, by simpa using hz, hcell, hwz⟩⟩
  clear hA0 hval0
  refine (walk a0 len0 cap0 z0 a1 len1 cap1 z1 W w0 w1).mono fun e W' ⟨he, bel⟩ => ?_
  subst he
  exact ⟨_, rfl, _, _, _, [], _, [], hW', trodAll_mk1 (shut_bool Try.underlying4 _), (trodAll_cons_mk (Below.trod laidOut (by kernel_rfl) (of_decide_eq_true (by kernel_rfl)) k0 bel lt0) (trodAll_cons_mk (Below.trod laidOut (by kernel_rfl) (of_decide_eq_true (by kernel_rfl)) k1 bel lt1) trodAll_mk0)), rfl, bel.frame _, fun h => by cases h⟩

theorem over : Rows.wordsJoinsRow.holds Try.pinned (OpenSpec.ofChange Rows.wordsJoinsSpec) :=
  OpenClaim.holds_of_wide 6 Try.f6 rfl rfl rfl rfl rfl rfl rfl ⟨rfl, rfl, rfl, rfl, rfl⟩ rfl rfl rfl rfl rfl (by kernel_rfl) Try.func6 (by kernel_rfl)
    (of_decide_eq_true (by kernel_rfl)) (by unfold Func.isWrapper; first | (rw [if_pos (by decide +kernel)]; kernel_rfl) | (rw [if_neg (by decide +kernel)]; exact ⟨rfl, rfl⟩))
    (fun os started H enc _ => lifted os started H enc)

/-- the statement -/
theorem proved : Rows.WordsJoinsSaid := over
#print axioms proved
end Go.Proofs.Ytflikfnehpaohaa.wordsJoins
