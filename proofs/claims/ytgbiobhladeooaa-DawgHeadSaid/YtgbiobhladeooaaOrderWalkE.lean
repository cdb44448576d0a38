/- order.Sort: the words that are in a list, each once, so that they rise. -/
import Derived.Test.YtgbiobhladeooaaOrderStep
namespace Go.Proofs.Ytgbiobhladeooaa
open Go.RowKit

set_option maxRecDepth 100000 in
theorem dd_step {l : List (List Int)} {o R : List (List Int)} {j : Nat} {z : List Int} (h : o = (l.take j).foldl dd []) (hj : j < l.length) (hz : l.getD j [] = z) (hR : dd o z = R) : R = (l.take (j + 1)).foldl dd [] := by
  rw [List.take_succ_eq_append_getElem hj, List.foldl_append, ← h, ← hR]
  have : l[j] = z := by rw [← hz]; simp [hj]
  rw [this]; rfl

set_option maxRecDepth 100000 in
theorem Short.snoc {xs : List Wd} {x : Wd} (h : Short xs) (hx : x.n ≤ 100) : Short (xs ++ [x]) := by
  intro y hy
  rcases List.mem_append.1 hy with hy | hy
  · exact h y hy
  · simp only [List.mem_singleton] at hy; rw [hy]; exact hx

/-- a word whose cells lie elsewhere than in block k -/
def Wd.Far (k : Option Nat) (x : Wd) : Prop := x.n = 0 ∨ ∃ b off, x.a = some ⟨b, off, none⟩ ∧ k ≠ some b

set_option maxRecDepth 100000 in
theorem Wd.Good.grown {w w' : World} {x : Wd} {k : Option Nat} (h : x.Good w) (hg : w.grownBy w' k) (hf : x.Far k) : x.Good w' := by
  obtain ⟨h1, h2, h3, h4, h5⟩ := h
  refine ⟨h1, h2, h3, h4, ?_⟩
  rcases h5 with h5 | ⟨b, off, ha, hc⟩
  · exact .inl h5
  · rcases hf with hf | ⟨b', off', ha', hk⟩
    · exact .inl hf
    · rw [ha] at ha'
      simp only [Option.some.injEq, Addr.mk.injEq, and_true] at ha'
      obtain ⟨rfl, rfl⟩ := ha'
      exact .inr ⟨b, off, ha, fun i hi => hg.cell (hc i hi) (fun e => hk e.symm)⟩

set_option maxRecDepth 100000 in
theorem Wd.Good.far_new {w : World} {x : Wd} {H : Nat} (h : x.Good w) (hH : w.heap.size ≤ H) : x.Far (some H) := by
  obtain ⟨h1, h2, h3, h4, h5⟩ := h
  rcases h5 with h5 | ⟨b, off, ha, hc⟩
  · exact .inl h5
  · rcases Nat.eq_zero_or_pos x.n with h0 | hp
    · exact .inl h0
    · refine .inr ⟨b, off, ha, fun e => ?_⟩
      have := cell_lt (hc 0 hp)
      simp only [Option.some.injEq] at e
      omega

set_option maxRecDepth 100000 in
theorem own_none_or {w : World} {B : Nat} {T : TypeId} {a : Option Addr} {L c : Nat} {l : List Value} (h : w.ownsRow B T 1 (.slice a L c) L l) (b : Nat) (hb : w.heap.size ≤ b) : (Value.slice a L c).ownBlock ≠ some b := by
  intro e
  have := (h.lt b e).2
  omega

/-- what Sort's loop has made of the first words -/
def Outs (B : Nat) (wr : World) (v : Value) (l : List (List Int)) (j : Nat) (a : Option Addr) (L c : Nat) (outs : List Wd) : Prop :=
  v = .slice a L c ∧ wr.ownsRow B 33 1 (.slice a L c) L (vals outs) ∧ outs.length = L ∧ L ≤ j ∧ (∀ x ∈ outs, x.Good wr ∧ x.Far (Value.slice a L c).ownBlock) ∧ Short outs ∧ nums outs = (l.take j).foldl dd [] ∧ (a = none → c = 0)

set_option maxHeartbeats 3200000 in
set_option maxRecDepth 100000 in
theorem sort_any (a : Option Addr) (n cap : Nat) (xs : List Wd) (w : World) (ha : Ws w a n cap xs) (hsh : Short xs) (hn : n ≤ 700) :
    Calls Try.prog 20 #[.slice a n cap] w fun e w' => ∃ a' m c' ys, e = .returned (.slice a' m c') ∧ Ws w' a' m c' ys ∧ nums ys = srt (nums xs) ∧ Form a' c' ∧ Short ys ∧ Below w.heap.size w w' := by
  have hmk := run_make_row' (P := Try.prog) 22 33 (.slice none 0 0) 24 Try.underlying22 info_words rfl .i64 .i64 n (by omega) (by omega)
  obtain ⟨X, hX⟩ : ∃ X, X = vals xs := ⟨_, rfl⟩
  have hXl : X.length = n := by rw [hX, vals_length, ha.1]
  have hpos : 0 < X.length → ∃ ad, a = some ad ∧ ∀ j v, X[j]? = some v → ∀ o, (w.alloc o).cell? (ad.add j) = some v := by
    intro h0
    obtain ⟨b, off, rfl, hb, hc⟩ := ha.at (by omega)
    refine ⟨_, rfl, fun j v hv o => ?_⟩
    have hj : j < xs.length := by
      rcases Nat.lt_or_ge j xs.length with h | h
      · exact h
      · rw [hX] at hv; simp [vals, List.getElem?_eq_none h] at hv
    have := hc j (by rw [← ha.1]; exact hj)
    rw [show (⟨b, off, none⟩ : Addr).add j = ⟨b, off + j, none⟩ from by simp [Addr.add], World.cell?_alloc_old _ _ _ (by show b ≠ w.heap.size; omega), this]
    rw [hX] at hv
    simp [vals, hj] at hv
    rw [← hv]; simp [hj, Wd.v]
  have h1 : ∀ v ∈ X, v.oneCell' = true := by rw [hX]; exact words_oneCell xs
  have hg : ∀ c : Array Value, (w.alloc (.cells c 33)).heap[w.heap.size]? = some (.cells c.toList.toArray 33 (0, 0)) := fun c => by unfold World.alloc; simp
  have HGD := Lib.hid ha.2.2.2.1
  have HL := Lib.hid ha.1
  have HX := Lib.hid hX
  have HXL := Lib.hid hXl
  have HP := Lib.hid hpos
  have H1 := Lib.hid h1
  have HG := Lib.hid hg
  have HSH := Lib.hid hsh
  clear ha hX hXl hpos h1 hg hsh
  go_enter Try.func20, Try.ntmps20
  go_wp2_with (first
    | (refine wpList_copy_splice (o := ⟨some 13, _, _, _, _, _⟩) rfl (.tmp 11) (.tmp 12) 22 22 (by rfl) 33 Try.underlying22 size_words _ _ _ _ _ _ (by rfl) (by rfl) w.heap.size 0 (madeCells #[.slice none 0 0] n).toList 33 (HG.out _) X (by rw [HXL.out]; simp) (fun h0 => ⟨rfl, by obtain ⟨ad, h, h'⟩ := HP.out h0; exact ⟨ad, h, fun j v hv => h' j v hv _⟩⟩) (by rw [HXL.out]; simp [madeCells]) H1.out w.heap.size w ((Below.refl _ w).alloc (Nat.le_refl _) _) (Nat.le_refl _) ?_; intro w2 HG2 hb2; have HW2 : Hid (w2.heap[w.heap.size]? = some (.cells (vals xs).toArray 33 (0, 0))) := (by have h2 := HG2.out; rw [splice_all _ _ (by rw [HXL.out]; simp [madeCells]), HX.out] at h2; exact h2); clear HG2)
    | (go_at_call 40; refine (sortFunc_any xs HGD.out HL.out (by omega) hb2 (Nat.le_refl _) HW2.out).mono ?_; rintro e w3 ⟨rfl, ys, hys, hperm, hpw, hmem, hb3⟩))
  have HYS := Lib.hid hys
  have HPM := Lib.hid hperm
  have HPW := Lib.hid hpw
  have HSY : Hid (Short ys) := fun y hy => HSH.out y (hmem y hy)
  clear hys hperm hpw hmem hmk HW2 hb2 HG HP H1 HXL HX
  have hylen := HYS.out.1
  have HYL := Lib.hid hylen
  clear hylen
  go_loopw [4, 18] (fun ov ix wr => ∃ (j : Nat) (a' : Option Addr) (L c' : Nat) (outs : List Wd), j ≤ n ∧ ix = .int .i64 (j : Int) ∧ Hid (Outs w3.heap.size wr ov (nums ys) j a' L c' outs) ∧ ov = .slice a' L c' ∧ Below w3.heap.size w3 wr) (fun _ ix _ => n - (intOf ix).toNat)
  case atStart => exact ⟨0, none, 0, 0, [], Nat.zero_le _, rfl, ⟨rfl, owns_nil_words _ _, rfl, Nat.le_refl _, by simp, by intro x hx; simp at hx, rfl, fun _ => rfl⟩, rfl, Below.refl _ _⟩
  case round =>
    obtain ⟨j, a', L, c', outs, hj, rfl, HO, rfl, hbr⟩ := hrel
    obtain ⟨_, ho1, ho2, ho3, ho4, ho5, ho6, ho7⟩ := HO.out
    clear HO
    by_cases hlt : j < n
    · obtain ⟨b1, o1, a3, n3, c3, z3, hb1, _, hx3, hx1, hs1, hz1⟩ := (HYS.out.below hbr (Nat.le_refl _)).one j hlt
      simp only [Option.some.injEq, Addr.mk.injEq, and_true] at hb1
      obtain ⟨hb1, rfl⟩ := hb1
      subst hb1
      rw [Nat.zero_add] at hx1
      have hn3 : n3 ≤ 100 := by
        have hjl : j < ys.length := by rw [HYL.out]; exact hlt
        have := HSY.out (ys.getD j Wd.no) (by rw [List.getD_eq_getElem?_getD, List.getElem?_eq_getElem hjl, Option.getD_some]; exact List.getElem_mem hjl)
        rw [hx3] at this; exact this
      have hlti : (j : Int) < (n : Int) := by omega
      have hWo : Ws wr a' L c' outs := Ws.of_owns ho1 (fun x hx => (ho4 x hx).1) ho2
      have HSZ := Lib.hid hs1
      have HZ := Lib.hid hz1
      have HO1 := Lib.hid ho1
      have HO2 := Lib.hid ho2
      have HO3 := Lib.hid ho3
      have HO4 := Lib.hid ho4
      have HO5 := Lib.hid ho5
      have HO6 := Lib.hid ho6
      have HO7 := Lib.hid ho7
      have hL300 : L ≤ 700 := by omega
      obtain ⟨i0, hi, hz0, hz1', hz2⟩ := info_parts info_words
      rcases Nat.eq_zero_or_pos L with hL0 | hLp
      · have HR : Hid (dd (nums outs) z3 = nums outs ++ nums [⟨some ⟨wr.heap.size, 0, none⟩, n3, n3, z3⟩]) := by
          show dd _ _ = _
          unfold dd
          rw [if_pos (.inl (by rw [nums_length, ho2]; exact hL0))]
          rfl
        obtain ⟨w1, hw1⟩ : ∃ w1, w1 = wr := ⟨_, rfl⟩
        subst hw1
        have hq1 : ∃ q, w1 = w1.drewN q := ⟨0, rfl⟩
        have O1 := ho1
        have hb31 := hbr
        have hz31 := hbr.size
        have S1 := hs1
        subst hL0
        clear hs1 hz1 ho1 ho2 ho3 ho4 ho5 ho6 ho7 hWo hx3
        go_wp2_with (first
          | (go_at_call 43; refine (own_any _ _ _ z3 _ S1 hn3).mono ?_; rintro e w4 ⟨rfl, hs4, hb4⟩; have own4 := ownsRow_below O1 hb4 (Nat.le_refl _); have hz4 := hb4.size)
          | (at_builtin; refine wpList_append_lies _ rfl (.tmp 35) (.tmp 38) 22 (by rfl) w3.heap.size 33 i0 (.slice none 0 0) 1 24 Try.underlying22 hi hz0 hz1' hz2 rfl (by decide) _ 0 (vals outs) (by rfl) (own4.alloc _) ⟨w4.heap.size, 0, none⟩ 1 1 (vals [⟨some ⟨w1.heap.size, 0, none⟩, n3, n3, z3⟩]) (by rfl) (by rfl) (one_newp rfl) (words_oneCell _) (by omega) (by unfold maxLen; omega) (by omega) (by simp; omega) _ rfl ?_; intro g5 c5 w5 hown5 hgrow5 hlies5 hlt5))
        have hnew : Wd.Good w4 ⟨some ⟨w1.heap.size, 0, none⟩, n3, n3, z3⟩ := hs4
        have hkey : ∀ x : Wd, x.Good w4 → x.Far (Value.slice a' 0 c').ownBlock → x.Good w5 ∧ x.Far (some g5) := by
          intro x hx hf
          refine ⟨(hx.below ((Below.refl w4.heap.size w4).alloc (Nat.le_refl _) _) (Nat.le_refl _)).grown hgrow5 hf, ?_⟩
          rcases hlies5 with h | h
          · rw [← h]; exact hf
          · rw [h]; exact hx.far_new (by simp)
        have hb5 : Below w3.heap.size w3 w5 := ((hb31.trans (hb4.mono hz31)).alloc (by have := hb4.size; omega) _).grown hgrow5 (by have := hb4.size; simp; omega) (fun k hk => (own4.lt k hk).1)
        go_roundw
        case rel =>
          refine ⟨j + 1, _, 1, c5, outs ++ [⟨some ⟨w1.heap.size, 0, none⟩, n3, n3, z3⟩], by omega, by go_num, ⟨rfl, by rw [vals_app]; exact hown5, by simp [HO2.out], by omega, ?_, HO5.out.snoc hn3, ?_, fun h => by cases h⟩, rfl, hb5⟩
          · intro x hx
            rcases List.mem_append.1 hx with hx | hx
            · exact hkey x (((HO4.out x hx).1.drawn hq1).below hb4 (Nat.le_refl _)) (HO4.out x hx).2
            · simp only [List.mem_singleton] at hx
              subst hx
              exact hkey _ hnew (.inr ⟨w1.heap.size, 0, rfl, own_none_or O1 _ (Nat.le_refl _)⟩)
          · rw [nums_app]
            refine dd_step HO6.out (by rw [nums_length, HYL.out]; exact hlt) HZ.out ?_
            exact HR.out
        case measure => simp [intOf]; omega
      · have hlast : L - 1 < L := by omega
        obtain ⟨p, rfl⟩ : ∃ p, L = p + 1 := ⟨L - 1, by omega⟩
        obtain ⟨b5, o5, a6, n6, c6, z6, ha6, _, hx6, hc6, hs6, hz6⟩ := hWo.one p (by omega)
        subst ha6
        have hpi : (p : Int) < ((p + 1 : Nat) : Int) := by omega
        have hp1 : ((p : Int) + 1 == 0) = false := by simp; omega
        have hp2 : ¬ ((p : Int) + 1 = 0) := by omega
        have hlz : (nums outs).getD ((nums outs).length - 1) [] = z6 := by rw [nums_length, ho2]; exact hz6
        have HLZ := Lib.hid hlz
        have HS6 := Lib.hid hs6
        cases hr : lessL z6 z3
        · have HRR := Lib.hid hr
          have HR : Hid (dd (nums outs) z3 = nums outs) := by
            show dd _ _ = _
            unfold dd
            rw [if_neg]
            rintro (h | h)
            · rw [nums_length, ho2] at h; omega
            · rw [hlz, hr] at h; cases h
          clear hs1 hz1 ho1 ho2 ho3 ho4 ho5 ho6 ho7 hWo hx3 hx6 hs6 hz6 hlz hr
          go_wp2_with (go_at_call 42; refine (less_is _ _ _ _ _ _ z6 z3 false _ HS6.out HSZ.out HRR.out).mono ?_; rintro e w1 ⟨rfl, q, rfl⟩)
          go_roundw
          case rel =>
            exact ⟨j + 1, _, p + 1, c', outs, by omega, by go_num, ⟨rfl, HO1.out, HO2.out, by have := HO3.out; omega, HO4.out, HO5.out, dd_step HO6.out (by rw [nums_length, HYL.out]; exact hlt) HZ.out HR.out, HO7.out⟩, rfl, below_drewN hbr q⟩
          case measure => simp [intOf]; omega
        · have HRR := Lib.hid hr
          have HRW : Hid (∀ l : List Wd, nums l = [z3] → dd (nums outs) z3 = nums outs ++ nums l) := by
            intro l hl
            unfold dd
            rw [if_pos (.inr (by rw [hlz, hr])), hl]
          clear hs1 hz1 ho1 ho2 ho3 ho4 ho5 ho6 ho7 hWo hx3 hx6 hs6 hz6 hlz hr
          go_wp2_with (first
            | (go_at_call 42; refine (less_is _ _ _ _ _ _ z6 z3 true _ HS6.out HSZ.out HRR.out).mono ?_; rintro e w1 ⟨rfl, hq1⟩; have O1 : w1.ownsRow w3.heap.size 33 1 (.slice (some ⟨b5, o5, none⟩) (p + 1) c') (p + 1) (vals outs) := (by obtain ⟨q, rfl⟩ := hq1; exact HO1.out); have hb31 : Below w3.heap.size w3 w1 := below_drawn hbr hq1; have hz31 := hb31.size; have S1 := HSZ.out.drawn hq1)
            | (go_at_call 43; refine (own_any _ _ _ z3 _ S1 hn3).mono ?_; rintro e w4 ⟨rfl, hs4, hb4⟩; have own4 := ownsRow_below O1 hb4 (Nat.le_refl _); have hz4 := hb4.size)
            | (at_builtin; refine wpList_append_lies _ rfl (.tmp 35) (.tmp 38) 22 (by rfl) w3.heap.size 33 i0 (.slice none 0 0) 1 24 Try.underlying22 hi hz0 hz1' hz2 rfl (by decide) _ (p + 1) (vals outs) (by rfl) (own4.alloc _) ⟨w4.heap.size, 0, none⟩ 1 1 (vals [⟨some ⟨w1.heap.size, 0, none⟩, n3, n3, z3⟩]) (by rfl) (by rfl) (one_newp rfl) (words_oneCell _) (by omega) (by unfold maxLen; omega) (by omega) (by simp; omega) _ rfl ?_; intro g5 c5 w5 hown5 hgrow5 hlies5 hlt5))
          have HR : Hid (dd (nums outs) z3 = nums outs ++ nums [⟨some ⟨w1.heap.size, 0, none⟩, n3, n3, z3⟩]) := HRW.out _ rfl
          have hnew : Wd.Good w4 ⟨some ⟨w1.heap.size, 0, none⟩, n3, n3, z3⟩ := hs4
          have hkey : ∀ x : Wd, x.Good w4 → x.Far (Value.slice (some ⟨b5, o5, none⟩) (p + 1) c').ownBlock → x.Good w5 ∧ x.Far (some g5) := by
            intro x hx hf
            refine ⟨(hx.below ((Below.refl w4.heap.size w4).alloc (Nat.le_refl _) _) (Nat.le_refl _)).grown hgrow5 hf, ?_⟩
            rcases hlies5 with h | h
            · rw [← h]; exact hf
            · rw [h]; exact hx.far_new (by simp)
          have hb5 : Below w3.heap.size w3 w5 := ((hb31.trans (hb4.mono hz31)).alloc (by have := hb4.size; omega) _).grown hgrow5 (by have := hb4.size; simp; omega) (fun k hk => (own4.lt k hk).1)
          go_roundw
          case rel =>
            refine ⟨j + 1, _, p + 1 + 1, c5, outs ++ [⟨some ⟨w1.heap.size, 0, none⟩, n3, n3, z3⟩], by omega, by go_num, ⟨rfl, by rw [vals_app]; exact hown5, by simp [HO2.out], by have := HO3.out; omega, ?_, HO5.out.snoc hn3, ?_, fun h => by cases h⟩, rfl, hb5⟩
            · intro x hx
              rcases List.mem_append.1 hx with hx | hx
              · exact hkey x (((HO4.out x hx).1.drawn hq1).below hb4 (Nat.le_refl _)) (HO4.out x hx).2
              · simp only [List.mem_singleton] at hx
                subst hx
                exact hkey _ hnew (.inr ⟨w1.heap.size, 0, rfl, own_none_or O1 _ (Nat.le_refl _)⟩)
            · rw [nums_app]
              refine dd_step HO6.out (by rw [nums_length, HYL.out]; exact hlt) HZ.out ?_
              exact HR.out
          case measure => simp [intOf]; omega
    · obtain rfl : j = n := by omega
      have hfin : nums outs = srt (nums xs) := by
        rw [ho6, List.take_of_length_le (by rw [nums_length, HYL.out]; omega)]
        exact dd_srt HPW.out HPM.out
      have HF := Lib.hid hfin
      have HW : Hid (Ws wr a' L c' outs) := Ws.of_owns ho1 (fun x hx => (ho4 x hx).1) ho2
      have HO5 := Lib.hid ho5
      have HO7 : Hid (Form a' c') := by
        obtain ⟨a9, c9, he, hf⟩ := form_of ho1
        simp only [Value.slice.injEq, true_and] at he
        obtain ⟨rfl, rfl⟩ := he
        exact hf
      have HB : Hid (Below w.heap.size w wr) := hb3.trans (hbr.mono hb3.size)
      clear hfin ho1 ho2 ho3 ho4 ho5 ho6 ho7
      go_wp2
      go_ret
      exact ⟨a', L, c', outs, rfl, HW.out, HF.out, HO7.out, HO5.out, HB.out⟩

end Go.Proofs.Ytgbiobhladeooaa
