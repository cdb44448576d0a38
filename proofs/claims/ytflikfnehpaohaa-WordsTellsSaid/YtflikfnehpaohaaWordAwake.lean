/- awake of layer 9. Written by wip/gen/word_awake.py. -/
import Derived.Lib.SlBytesConst
import Derived.Test.YtflikfnehpaohaaWordGot
namespace Go.Proofs.Ytflikfnehpaohaa
open Go Go.RowKit

set_option maxRecDepth 100000 in
theorem GotW.lay {w w' : World} {e : Ending} {ws : List (List Int)} {i er : Int} {n : Nat} (h : GotW w w' e ⟨ws, i, er⟩) (hn : ws.length = n) :
    ∃ a c xs, e = .returned (.tuple #[.slice a n c, .int .i64 i, .int .i64 er]) ∧ Ws w' a n c xs ∧ nums xs = ws ∧ (a = none → c = 0) ∧ Below w.heap.size w w' := by
  obtain ⟨a, m, c, xs, h1, h2, h3, h4, h5⟩ := h
  obtain rfl : m = n := by rw [← hn, ← h2.1, ← nums_length, h3]
  exact ⟨a, c, xs, h1, h2, h3, h4, h5⟩
set_option maxRecDepth 100000 in
theorem WroteIs.lay {w w' : World} {e : Ending} {bs : List Int} {er : Int} {n : Nat} (h : WroteIs w w' e (bs, er)) (hn : bs.length = n) :
    ∃ a c, e = .returned (.tuple #[.slice a n c, .int .i64 er]) ∧ Sl .u8 w' a n c bs ∧ (a = none → c = 0) ∧ Below w.heap.size w w' := by
  subst hn
  exact h
set_option maxRecDepth 100000 in
theorem Sl.newI {w : World} {t : TypeId} {B n m : Nat} (zs : List Int) (hw : ∀ z ∈ zs, (Lit.int .i64 z).wf = true) (hl : zs.length ≤ maxLen) (hB : B = w.heap.size) (hn : zs.length = n) (hm : zs.length = m) :
    Sl .i64 (w.alloc (.cells (i64s zs).toArray t)) (some ⟨B, 0, none⟩) n m zs := by
  subst hB hn hm
  refine ⟨rfl, Nat.le_refl _, hl, hw, .inr ⟨w.heap.size, 0, rfl, fun i hi => ?_⟩⟩
  rw [World.cell?_alloc_at _ _ _ _ (by rfl)]
  simp [i64s, hi]
set_option maxRecDepth 100000 in
theorem aw9_step {w w1 w2 : World} {A : Obj} (h : Below w.heap.size w w1) (hb : Below (w1.alloc A).heap.size (w1.alloc A) w2) : Below w.heap.size w w2 ∧ Below w1.heap.size w1 w2 := by
  have e : (w1.alloc A).heap.size = w1.heap.size + 1 := World.size_alloc w1 A
  have h2 : Below w1.heap.size w1 w2 := ((Below.refl _ w1).alloc (Nat.le_refl _) A).trans (hb.mono (by omega))
  exact ⟨h.trans (h2.mono h.size), h2⟩

set_option maxRecDepth 100000 in
theorem aw9_w {w l : List Int} (hf : Wl.fit w = true) (hp : Utf.put w = l) : Line.bare l = false ∧ Wl.word l = (w, 0) := by
  subst hp
  exact ⟨(Wl.put_line hf).2.1, (Wl.put_line hf).2.2.1⟩
set_option maxRecDepth 100000 in
theorem aw9_a : Line.bare [97] = false ∧ Wl.word [97] = ([97], 0) := aw9_w (by decide +kernel) (by decide +kernel)
set_option maxRecDepth 100000 in
theorem aw9_b : Line.bare [98] = false ∧ Wl.word [98] = ([98], 0) := aw9_w (by decide +kernel) (by decide +kernel)
set_option maxRecDepth 100000 in
theorem aw9_ff : Wl.word [255] = ([], 10) := by
  have h : Wl.signs [255] = none := Wl.signs_of (x := none) (by
    intro l hg hp
    cases l with
    | nil => simp [Utf.put] at hp
    | cons n r =>
      rw [Utf.allGood_cons, Bool.and_eq_true] at hg
      have hl := congrArg List.length hp
      rw [Utf.put_cons, List.length_append, Utf.enc_length] at hl
      have h1 : Utf.size n = 1 := by have := Utf.size_pos n; simp at hl; omega
      have h2 : n < 128 := by
        rcases Int.lt_or_le n 128 with h | h
        · exact h
        · unfold Utf.size at h1
          rw [if_neg (by omega)] at h1
          split at h1 <;> (try split at h1) <;> omega
      rw [Utf.put_cons, Wl.enc_low h2] at hp
      simp at hp
      omega)
  unfold Wl.word
  rw [show Line.fields [255] = [[255]] from by decide +kernel, if_pos (by rfl)]
  exact Wl.ofField_none h
set_option maxRecDepth 100000 in
theorem aw9_long : Wl.word [97, 97, 97, 97, 97, 97, 97, 97, 97, 97, 97, 97, 97, 97, 97, 97, 97, 97, 97, 97, 97] = ([], 90) := by
  have h : Wl.signs [97, 97, 97, 97, 97, 97, 97, 97, 97, 97, 97, 97, 97, 97, 97, 97, 97, 97, 97, 97, 97] = some [97, 97, 97, 97, 97, 97, 97, 97, 97, 97, 97, 97, 97, 97, 97, 97, 97, 97, 97, 97, 97] := by
    have hp : Utf.put [97, 97, 97, 97, 97, 97, 97, 97, 97, 97, 97, 97, 97, 97, 97, 97, 97, 97, 97, 97, 97] = [97, 97, 97, 97, 97, 97, 97, 97, 97, 97, 97, 97, 97, 97, 97, 97, 97, 97, 97, 97, 97] := by decide +kernel
    have := Wl.signs_put (l := [97, 97, 97, 97, 97, 97, 97, 97, 97, 97, 97, 97, 97, 97, 97, 97, 97, 97, 97, 97, 97]) (by decide +kernel)
    rw [hp] at this; exact this
  unfold Wl.word
  rw [show Line.fields [97, 97, 97, 97, 97, 97, 97, 97, 97, 97, 97, 97, 97, 97, 97, 97, 97, 97, 97, 97, 97] = [[97, 97, 97, 97, 97, 97, 97, 97, 97, 97, 97, 97, 97, 97, 97, 97, 97, 97, 97, 97, 97]] from by decide +kernel, if_pos (by rfl)]
  exact Wl.ofField_long h (by decide)
set_option maxRecDepth 100000 in
theorem aw9_1 : Wl.read [98, 10, 35, 32, 99, 10, 97, 10, 98, 10] = ⟨[[97], [98]], -1, 0⟩ := by
  unfold Wl.read
  rw [show Line.split [98, 10, 35, 32, 99, 10, 97, 10, 98, 10] = [[98], [35, 32, 99], [97], [98]] from by decide +kernel]
  rw [Wl.readA_cons, if_neg (by rw [aw9_b.1]; decide), aw9_b.2, if_neg (by decide), if_neg (by decide +kernel)]
  rw [Wl.readA_cons, if_pos (by decide +kernel)]
  rw [Wl.readA_cons, if_neg (by rw [aw9_a.1]; decide), aw9_a.2, if_neg (by decide), if_neg (by decide +kernel)]
  rw [Wl.readA_cons, if_neg (by rw [aw9_b.1]; decide), aw9_b.2, if_neg (by decide), if_neg (by decide +kernel)]
  unfold Wl.readA
  rw [show ins (ins (ins [] ([98], (0 : Int)).1) ([97], (0 : Int)).1) ([98], (0 : Int)).1 = [[97], [98]] from by decide +kernel]
set_option maxRecDepth 100000 in
theorem aw9_2 : Wl.read [97, 10, 97, 32, 98] = ⟨[], 1, 71⟩ := by
  unfold Wl.read
  rw [show Line.split [97, 10, 97, 32, 98] = [[97], [97, 32, 98]] from by decide +kernel]
  rw [Wl.readA_cons, if_neg (by rw [aw9_a.1]; decide), aw9_a.2, if_neg (by decide), if_neg (by decide +kernel)]
  have h : Wl.word [97, 32, 98] = ([], 71) := by
    unfold Wl.word
    rw [if_neg (by decide +kernel)]
  rw [Wl.readA_cons, if_neg (by decide +kernel), h, if_pos (by decide)]
  rfl
set_option maxRecDepth 100000 in
theorem aw9_3 : Wl.read [255] = ⟨[], 0, 10⟩ := by
  unfold Wl.read
  rw [show Line.split [255] = [[255]] from by decide +kernel]
  rw [Wl.readA_cons, if_neg (by decide +kernel), aw9_ff, if_pos (by decide)]
  rfl
set_option maxRecDepth 100000 in
theorem aw9_4 : Wl.read [97, 97, 97, 97, 97, 97, 97, 97, 97, 97, 97, 97, 97, 97, 97, 97, 97, 97, 97, 97, 97] = ⟨[], 0, 90⟩ := by
  unfold Wl.read
  rw [show Line.split [97, 97, 97, 97, 97, 97, 97, 97, 97, 97, 97, 97, 97, 97, 97, 97, 97, 97, 97, 97, 97] = [[97, 97, 97, 97, 97, 97, 97, 97, 97, 97, 97, 97, 97, 97, 97, 97, 97, 97, 97, 97, 97]] from by decide +kernel]
  rw [Wl.readA_cons, if_neg (by decide +kernel), aw9_long, if_pos (by decide)]
  rfl

set_option maxHeartbeats 12800000 in
set_option maxRecDepth 100000 in
theorem awake_any (w : World) : Calls Try.prog 8 #[] w fun e w' => e = .returned (.bool true) ∧ Below w.heap.size w w' := by
  have kc := fun (w : World) (C : Array Value) (n c : Nat) => Lib.run_convert_bytes_const (P := Try.prog) w 22 5 C n c Try.underlying22 Try.underlying5
  go_enter Try.func8, Try.ntmps8
  go_wp2_with fail
  refine (wread_is _ 10 10 [98, 10, 35, 32, 99, 10, 97, 10, 98, 10] _ _ (Sl.newB [98, 10, 35, 32, 99, 10, 97, 10, 98, 10] (by decide) (by unfold maxLen; simp) (by simp) rfl rfl) (fun h => by cases h) (by omega) aw9_1).mono ?_
  intro e w1 h1
  obtain ⟨a1, c1, xs1, rfl, hws1, hn1, hnil1, hb1⟩ := h1.lay (n := 2) rfl
  have HB1 : Hid (Below w.heap.size w w1) := (aw9_step (Below.refl _ w) hb1).1
  have HWS1 := Lib.hid hws1
  have HN1 := Lib.hid hn1
  clear hws1 hn1 hnil1 hb1 h1
  go_wp2_with fail
  refine (wwrite_is a1 2 c1 xs1 ([97, 10, 98, 10], 0) _ HWS1.out (by rw [HN1.out]; decide +kernel)).mono ?_
  intro e w2 h2
  obtain ⟨a2, c2, rfl, hsw, hnil2, hb2⟩ := h2.lay (n := 4) rfl
  have HB2 : Hid (Below w.heap.size w w2) := HB1.out.trans (hb2.mono HB1.out.size)
  have HSW := Lib.hid hsw
  clear hsw hnil2 hb2 h2 HWS1 HN1
  go_wp2_with fail
  refine (wread_is _ 5 5 [97, 10, 97, 32, 98] _ _ (Sl.newB [97, 10, 97, 32, 98] (by decide) (by unfold maxLen; simp) (by simp) rfl rfl) (fun h => by cases h) (by omega) aw9_2).mono ?_
  intro e w3 h3
  obtain ⟨a3, c3, xs3, rfl, -, -, -, hb3⟩ := h3.lay (n := 0) rfl
  have HST := aw9_step HB2.out hb3
  have HB3 := Lib.hid HST.1
  have HSW3 := Lib.hid (HSW.out.below HST.2 (Nat.le_refl _))
  clear HST hb3 h3 HSW
  go_wp2_with fail
  refine (wread_is _ 1 1 [255] _ _ (Sl.newB [255] (by decide) (by unfold maxLen; simp) (by simp) rfl rfl) (fun h => by cases h) (by omega) aw9_3).mono ?_
  intro e w4 h4
  obtain ⟨a4, c4, xs4, rfl, -, -, -, hb4⟩ := h4.lay (n := 0) rfl
  have HST := aw9_step HB3.out hb4
  have HB4 := Lib.hid HST.1
  have HSW4 := Lib.hid (HSW3.out.below HST.2 (Nat.le_refl _))
  clear HST hb4 h4 HSW3
  go_wp2_with fail
  refine (wread_is _ 21 21 [97, 97, 97, 97, 97, 97, 97, 97, 97, 97, 97, 97, 97, 97, 97, 97, 97, 97, 97, 97, 97] _ _ (Sl.newB [97, 97, 97, 97, 97, 97, 97, 97, 97, 97, 97, 97, 97, 97, 97, 97, 97, 97, 97, 97, 97] (by decide) (by unfold maxLen; simp) (by simp) rfl rfl) (fun h => by cases h) (by omega) aw9_4).mono ?_
  intro e w5 h5
  obtain ⟨a5, c5, xs5, rfl, -, -, -, hb5⟩ := h5.lay (n := 0) rfl
  have HST := aw9_step HB4.out hb5
  have HB5 := Lib.hid HST.1
  have HSW5 := Lib.hid (HSW4.out.below HST.2 (Nat.le_refl _))
  clear HST hb5 h5 HSW4
  obtain ⟨W3, hW3⟩ : ∃ W3, W3 = (w5.alloc (.cells #[.int .i64 98] 3)).alloc (.cells #[.int .i64 97] 3) := ⟨_, rfl⟩
  have Sb : Sl .i64 W3 (some ⟨w5.heap.size, 0, none⟩) 1 1 [98] := by rw [hW3]; exact (Sl.newI [98] (by decide) (by decide) rfl rfl rfl).alloc _
  have Sa : Sl .i64 W3 (some ⟨w5.heap.size + 1, 0, none⟩) 1 1 [97] := by rw [hW3]; exact Sl.newI [97] (by decide) (by decide) (by simp) rfl rfl
  have hs3 : W3.heap.size = w5.heap.size + 1 + 1 := by rw [hW3]; simp
  have B3 : Below w5.heap.size w5 W3 := by rw [hW3]; exact ((Below.refl _ w5).alloc (Nat.le_refl _) _).alloc (by simp) _
  have WL : Hid (Ws (W3.alloc (.cells (vals [⟨some ⟨w5.heap.size, 0, none⟩, 1, 1, [98]⟩, ⟨some ⟨w5.heap.size + 1, 0, none⟩, 1, 1, [97]⟩]).toArray 24)) (some ⟨w5.heap.size + 1 + 1, 0, none⟩) 2 2
      [⟨some ⟨w5.heap.size, 0, none⟩, 1, 1, [98]⟩, ⟨some ⟨w5.heap.size + 1, 0, none⟩, 1, 1, [97]⟩]) := by
    refine Ws.newc _ ?_ (by show 2 ≤ maxLen; unfold maxLen; omega) hs3.symm rfl rfl
    intro x hx
    simp only [List.mem_cons, List.not_mem_nil, or_false] at hx
    rcases hx with rfl | rfl
    · exact Sb
    · exact Sa
  have BW : ∀ o, Hid (Below w5.heap.size w5 (W3.alloc o)) := fun o => B3.alloc (by omega) o
  have HW := Lib.hid hW3
  clear Sa Sb hs3 B3 hW3
  go_wp2_with fail
  refine (wwrite_is (some ⟨w5.heap.size + 1 + 1, 0, none⟩) 2 2 [⟨some ⟨w5.heap.size, 0, none⟩, 1, 1, [98]⟩, ⟨some ⟨w5.heap.size + 1, 0, none⟩, 1, 1, [97]⟩] ([], 90) _ (by have h := WL.out; rw [HW.out] at h; exact h) (by show Wl.write [[98], [97]] = _; decide +kernel)).mono ?_
  intro e w6 h6
  rw [← HW.out] at h6
  obtain ⟨a6, c6, rfl, -, -, hb6⟩ := h6.lay (n := 0) rfl
  have HP6 : Hid (Below w5.heap.size w5 w6) := (BW _).out.trans (hb6.mono (BW _).out.size)
  have HB6 : Hid (Below w.heap.size w w6) := HB5.out.trans (HP6.out.mono HB5.out.size)
  have HSW6 := Lib.hid (HSW5.out.below HP6.out (Nat.le_refl _))
  clear hb6 h6 HSW5 WL BW HP6
  have hstr := HSW6.out.str
  have heq : ((strOfNums [97, 10, 98, 10]).toList == [97, 10, 98, 10]) = true := by rw [ByteArray.toList_eq]; decide
  go_wp2_with fail
  refine (wfit_is (some ⟨w6.heap.size, 0, none⟩) 1 1 [97] true _ (Sl.newI [97] (by decide) (by decide) rfl rfl rfl) (by decide +kernel)).mono ?_
  rintro e w7 ⟨rfl, h7⟩
  have HB7 : Hid (Below w.heap.size w w7) := by rw [h7]; exact HB6.out.alloc HB6.out.size _
  clear h7 hstr heq
  go_wp2_with fail
  refine (wfit_is none 0 0 [] false _ Sl.nil (by decide +kernel)).mono ?_
  rintro e w8 ⟨rfl, h8⟩
  have HB8 : Hid (Below w.heap.size w w8) := by rw [h8]; exact HB7.out
  clear h8
  go_wp2_with fail
  refine (wfit_is (some ⟨w8.heap.size, 0, none⟩) 1 1 [35] false _ (Sl.newI [35] (by decide) (by decide) rfl rfl rfl) (by decide +kernel)).mono ?_
  rintro e w9 ⟨rfl, h9⟩
  have HB9 : Hid (Below w.heap.size w w9) := by rw [h9]; exact HB8.out.alloc HB8.out.size _
  clear h9
  go_wp2
  go_ret
  exact ⟨rfl, HB9.out⟩

end Go.Proofs.Ytflikfnehpaohaa
