import Derived.Test.YtpcebfefbnpbpaaStpRef
import Derived.Test.YtpcebfefbnpbpaaStpLists
import Derived.Test.YtpcebfefbnpbpaaFileRefC
set_option linter.all false
set_option maxRecDepth 100000
set_option maxHeartbeats 12800000
namespace Go.Proofs.Ytpcebfefbnpbpaa
open Go.RowKit

theorem AllP.lowerR {w0 W : World} {B B' : Nat} {a : Option Addr} {n c : Nat} {ys : List Lw} (h : AllP w0 W B a n c ys) (hB : B' ≤ B) : AllP w0 W B' a n c ys := ⟨own_mono h.own hB, h.rows, h.len, h.bel⟩
theorem chk_sides8 {c : File.Cst} (h : File.check c = true) : ∀ x ∈ c.rules, x.L.length ≤ 8 := fun x hx => by
  obtain ⟨-, -, h3, -⟩ := File.check_parts h
  have h := (Spec.fit_parts (h3 x hx)).1
  unfold chk at h
  simp only [Bool.and_eq_true] at h
  have hg : goodL x.L = true := by
    have h' := h
    simp only [and_assoc] at h'
    exact h'.1
  unfold goodL at hg
  rw [Bool.and_eq_true, decide_eq_true_iff] at hg
  exact hg.2
/-- append of one list behind others -/
theorem append_one_list {w : World} {ops : Array Oper} {rest : List Oper} {o : Oper} {act : Act} {Q : Exit → Act → World → Prop} (hw : Region.wanted o (yielded ops act.tmps) = true) (s x : Operand)
    (ho : o.op = .call { callee := .builtin .append, args := #[s, x], argTypes := #[29, 29] }) (base : Nat) (v : Value) (n : Nat) (ys : List Lw) (hs : act.eval s = v)
    (hown : w.ownsRow base 32 1 v n (lvals ys)) (g : Nat) (y : Lw) (hx : act.eval x = .slice (some ⟨g, 0, none⟩) 1 1) (hz : w.cell? ⟨g, 0, none⟩ = some y.v)
    (N : Nat) (hN : n + 1 = N) (h63 : N ≤ 1000000) (hbase : base ≤ w.heap.size)
    (h : ∀ a' c' w', w'.ownsRow base 32 1 (.slice a' N c') N (lvals (ys ++ [y])) → Below base w w' → w.grownBy w' v.ownBlock → (a' = none → c' = 0) → wpList Try.prog ops Q rest (act.put o.dst (.slice a' N c')) w') :
    wpList Try.prog ops Q (o :: rest) act w := by
  subst hN
  refine wpList_step fun K hK => ?_
  rw [if_pos hw]
  refine wp_append_cells s x 29 32 ho _ 1 24 Try.underlying29 info_list17 rfl (by omega) base v n (lvals ys) hs hown (some ⟨g, 0, none⟩) 1 1 [y.v] hx rfl (fun _ => ⟨_, rfl, fun j u hj => ?_⟩) (fun u hu => by rw [List.mem_singleton.1 hu]; rfl) (by unfold maxLen; omega) (by omega) hbase ?_
  · match j, hj with
    | 0, hj => simp at hj; subst hj; simpa [Addr.add] using hz
  · intro a' c' w' h1 h2 h3 h4
    exact hK _ _ (h a' c' w' (by rw [lvals_app]; exact h1) h2 h3 h4)

theorem rAt17_is (c : Cw) (qa : Option Addr) (qn qc : Nat) (zs : List Int) (i : Int) (w0 w : World) (hb0 : Below w0.heap.size w0 w) (hc : c.Good w0) (hq : Sl .i64 w0 qa qn qc zs) (hn : c.n ≤ 20000) :
    Calls Try.prog 14 #[c.v, .slice qa qn qc, .int .i64 i] w fun e w' => StepsIs w0 w w' e (Stp.at' c.c zs i) := by
  obtain ⟨d, hd⟩ : ∃ d, File.check c.c = d := ⟨_, rfl⟩
  have hqc := hq.2.1
  have hqm := hq.2.2.1
  unfold maxLen at hqm
  have HN := Lib.hid hn
  have HLN : Hid ((ruls c.xs).length = c.n) := Lib.hid (by rw [ruls_length]; exact hc.1.1)
  obtain ⟨cm, cl, co, ct, ra, rn, rcap, xs⟩ := c
  have HC := Lib.hid hc
  have HQ := Lib.hid hq
  have HD := Lib.hid hd
  have HB0 := Lib.hid hb0
  clear hc hq hd hb0 hn
  obtain ⟨W0, hW0⟩ : ∃ W0, W0 = w.alloc (.cells #[.int .u64 cm, .int .u64 cl, .int .u64 co, .int .u64 ct, .slice ra rn rcap] 25) := ⟨_, rfl⟩
  have HW : Hid (Below w.heap.size w W0) := Lib.hid (by rw [hW0]; exact (Below.refl _ w).alloc (Nat.le_refl _) _)
  have HKP : Hid (∀ W, Below W0.heap.size W0 W → W.cell? ⟨w.heap.size, 0, none⟩ = some (.int .u64 cm) ∧ W.cell? ⟨w.heap.size, 1, none⟩ = some (.int .u64 cl) ∧ W.cell? ⟨w.heap.size, 2, none⟩ = some (.int .u64 co) ∧ W.cell? ⟨w.heap.size, 3, none⟩ = some (.int .u64 ct) ∧ W.cell? ⟨w.heap.size, 4, none⟩ = some (.slice ra rn rcap)) := Lib.hid fun W hb => by
    have h := (hb.block w.heap.size (by rw [hW0]; simp)).trans (show W0.heap[w.heap.size]? = some (.cells #[.int .u64 cm, .int .u64 cl, .int .u64 co, .int .u64 ct, .slice ra rn rcap] 25 (0, 0)) by rw [hW0]; exact heap_alloc_new w _)
    refine ⟨?_, ?_, ?_, ?_, ?_⟩ <;> (rw [cell_of_row W _ _ _ _ _ h]; rfl)
  have HW00 : Hid (Below w0.heap.size w0 W0) := Lib.hid (HB0.out.trans (HW.out.mono HB0.out.size))
  have HCHK := Lib.hid (rcheck8_is ⟨cm, cl, co, ct, ra, rn, rcap, xs⟩ d W0 (HC.out.below HW00.out (Nat.le_refl _)) HN.out HD.out)
  have hnone : ∀ W, Below W0.heap.size W0 W → (d = false ∨ 20 < qn ∨ i < 0 ∨ (qn : Int) < i) → StepsIs w0 w W (.returned (.slice none 0 0)) (Stp.at' (Cw.c ⟨cm, cl, co, ct, ra, rn, rcap, xs⟩) zs i) := fun W hb hx => by
    have hbw : Below w.heap.size w W := HW.out.trans (hb.mono HW.out.size)
    refine ⟨none, 0, 0, [], rfl, MadeP.start w0 W _ (HB0.out.trans (hbw.mono HB0.out.size)), ?_, fun _ => rfl, hbw⟩
    rw [Stp.at_out]
    · rfl
    · unfold Stp.ok
      rw [HD.out, HQ.out.1]
      rcases hx with rfl | hx | hx | hx
      · exact .inl rfl
      · exact .inl (by rw [decide_eq_false (by omega), Bool.and_false])
      · exact .inr (.inl hx)
      · exact .inr (.inr hx)
  have HNO := Lib.hid hnone
  clear hnone
  show Calls _ _ #[.agg #[.int .u64 cm, .int .u64 cl, .int .u64 co, .int .u64 ct, .slice ra rn rcap], .slice qa qn qc, .int .i64 i] w _
  cases d with
  | false =>
    go_enter Try.func14, Try.ntmps14
    go_wp2_with (go_at_call 20; rw [← hW0]; refine HCHK.out.mono ?_; rintro e w2 ⟨rfl, hb⟩; have HB2 := Lib.hid hb; clear hb)
    go_ret
    exact HNO.out _ HB2.out (by simp)
  | true =>
    by_cases hq20 : 20 < qn
    · have hq1 : (20 : Int) < (qn : Int) := by omega
      have hq2 : decide ((20 : Int) < (qn : Int)) = true := decide_eq_true hq1
      go_enter Try.func14, Try.ntmps14
      go_wp2_with (go_at_call 20; rw [← hW0]; refine HCHK.out.mono ?_; rintro e w2 ⟨rfl, hb⟩; have HB2 := Lib.hid hb; clear hb)
      go_ret
      exact HNO.out _ HB2.out (.inr (.inl hq20))
    · have hq1 : ¬ (20 : Int) < (qn : Int) := by omega
      have hq2 : decide ((20 : Int) < (qn : Int)) = false := decide_eq_false hq1
      by_cases hi0 : i < 0
      · have hi1 : decide (i < 0) = true := decide_eq_true hi0
        go_enter Try.func14, Try.ntmps14
        go_wp2_with (go_at_call 20; rw [← hW0]; refine HCHK.out.mono ?_; rintro e w2 ⟨rfl, hb⟩; have HB2 := Lib.hid hb; clear hb)
        go_ret
        exact HNO.out _ HB2.out (.inr (.inr (.inl hi0)))
      · have hi1 : decide (i < 0) = false := decide_eq_false hi0
        by_cases hiq : (qn : Int) < i
        · have hiq1 : decide ((qn : Int) < i) = true := decide_eq_true hiq
          go_enter Try.func14, Try.ntmps14
          go_wp2_with (go_at_call 20; rw [← hW0]; refine HCHK.out.mono ?_; rintro e w2 ⟨rfl, hb⟩; have HB2 := Lib.hid hb; clear hb)
          go_ret
          exact HNO.out _ HB2.out (.inr (.inr (.inr hiq)))
        · obtain ⟨k, rfl⟩ : ∃ k : Nat, i = k := ⟨i.toNat, by omega⟩
          have hiq1 : decide ((qn : Int) < (k : Int)) = false := decide_eq_false hiq
          have hkq : k ≤ qn := by omega
          have hn2 : rn ≤ 200 := by
            obtain ⟨-, h, -, -⟩ := File.check_parts HD.out
            have h : (ruls xs).length ≤ 200 := h
            rw [HLN.out] at h; exact h
          have HAT : Hid (∀ W, Below W0.heap.size W0 W → Calls Try.prog 21 #[.agg #[.int .u64 cm, .int .u64 cl, .int .u64 co, .int .u64 ct, .slice ra rn rcap], .slice qa qn qc, .int .i64 (k : Int)] W fun e w' => StepsIs w0 W w' e (Stp.here (Cw.c ⟨cm, cl, co, ct, ra, rn, rcap, xs⟩) (zs.drop k))) := Lib.hid fun W hb =>
            rat17_is ⟨cm, cl, co, ct, ra, rn, rcap, xs⟩ qa qn qc zs k w0 W (HW00.out.trans (hb.mono HW00.out.size)) HC.out HQ.out (by omega) hn2 (chk_sides8 HD.out) hkq
          have HKQ := Lib.hid hkq
          have HQ20 : Hid (qn ≤ 20) := Lib.hid (by omega)
          go_enter Try.func14, Try.ntmps14
          go_wp2_with (first
            | (go_at_call 20; rw [← hW0]; refine HCHK.out.mono ?_; rintro e w2 ⟨rfl, hb⟩; have HB2 := Lib.hid hb; clear hb; obtain ⟨k0, k1, k2, k3, k4⟩ := HKP.out _ HB2.out)
            | (go_at_call 21; refine (HAT.out _ HB2.out).mono ?_; rintro e w3 ⟨a3, n3, c3, ys3, rfl, hm3, ht3, hn3, hb3⟩; have HM3 := Lib.hid hm3; have HT3 := Lib.hid ht3; have HN3 := Lib.hid hn3; have HB3 := Lib.hid hb3; clear hm3 ht3 hn3 hb3))
          go_ret
          have hbw : Below w.heap.size w w2 := HW.out.trans (HB2.out.mono HW.out.size)
          refine ⟨a3, n3, c3, ys3, rfl, HM3.out.lower17 hbw.size, ?_, HN3.out, hbw.trans (HB3.out.mono hbw.size)⟩
          rw [HT3.out, Stp.at_in (by unfold Stp.ok; rw [HD.out, HQ.out.1, decide_eq_true HQ20.out]; rfl) (by rw [HQ.out.1]; exact HKQ.out)]

theorem rAll17_is (c : Cw) (qa : Option Addr) (qn qc : Nat) (zs : List Int) (w0 w : World) (hb0 : Below w0.heap.size w0 w) (hc : c.Good w0) (hq : Sl .i64 w0 qa qn qc zs) (hn : c.n ≤ 20000) :
    Calls Try.prog 11 #[c.v, .slice qa qn qc] w fun e w' => AllIs w0 w w' e (Stp.all c.c zs) := by
  obtain ⟨d, hd⟩ : ∃ d, File.check c.c = d := ⟨_, rfl⟩
  have hqc := hq.2.1
  have hqm := hq.2.2.1
  unfold maxLen at hqm
  have HN := Lib.hid hn
  have HLN : Hid ((ruls c.xs).length = c.n) := Lib.hid (by rw [ruls_length]; exact hc.1.1)
  obtain ⟨cm, cl, co, ct, ra, rn, rcap, xs⟩ := c
  have HC := Lib.hid hc
  have HQ := Lib.hid hq
  have HD := Lib.hid hd
  have HB0 := Lib.hid hb0
  clear hc hq hd hb0 hn
  obtain ⟨W0, hW0⟩ : ∃ W0, W0 = w.alloc (.cells #[.int .u64 cm, .int .u64 cl, .int .u64 co, .int .u64 ct, .slice ra rn rcap] 25) := ⟨_, rfl⟩
  have HW : Hid (Below w.heap.size w W0) := Lib.hid (by rw [hW0]; exact (Below.refl _ w).alloc (Nat.le_refl _) _)
  have HKP : Hid (∀ W, Below W0.heap.size W0 W → W.cell? ⟨w.heap.size, 0, none⟩ = some (.int .u64 cm) ∧ W.cell? ⟨w.heap.size, 1, none⟩ = some (.int .u64 cl) ∧ W.cell? ⟨w.heap.size, 2, none⟩ = some (.int .u64 co) ∧ W.cell? ⟨w.heap.size, 3, none⟩ = some (.int .u64 ct) ∧ W.cell? ⟨w.heap.size, 4, none⟩ = some (.slice ra rn rcap)) := Lib.hid fun W hb => by
    have h := (hb.block w.heap.size (by rw [hW0]; simp)).trans (show W0.heap[w.heap.size]? = some (.cells #[.int .u64 cm, .int .u64 cl, .int .u64 co, .int .u64 ct, .slice ra rn rcap] 25 (0, 0)) by rw [hW0]; exact heap_alloc_new w _)
    refine ⟨?_, ?_, ?_, ?_, ?_⟩ <;> (rw [cell_of_row W _ _ _ _ _ h]; rfl)
  have HW00 : Hid (Below w0.heap.size w0 W0) := Lib.hid (HB0.out.trans (HW.out.mono HB0.out.size))
  have HCHK := Lib.hid (rcheck8_is ⟨cm, cl, co, ct, ra, rn, rcap, xs⟩ d W0 (HC.out.below HW00.out (Nat.le_refl _)) HN.out HD.out)
  have HNO : Hid (∀ W, Below W0.heap.size W0 W → (d = false ∨ 20 < qn) → AllIs w0 w W (.returned (.slice none 0 0)) (Stp.all (Cw.c ⟨cm, cl, co, ct, ra, rn, rcap, xs⟩) zs)) := Lib.hid fun W hb hx => by
    have hbw : Below w.heap.size w W := HW.out.trans (hb.mono HW.out.size)
    refine ⟨none, 0, 0, [], rfl, ⟨World.ownsRow_nil _ _ _ _, by simp, rfl, HB0.out.trans (hbw.mono HB0.out.size)⟩, ?_, fun _ => rfl, hbw⟩
    unfold Stp.all Stp.ok
    rw [HD.out, HQ.out.1, if_neg]
    · rfl
    · rcases hx with rfl | hx
      · simp
      · rw [decide_eq_false (by omega), Bool.and_false]; simp
  show Calls _ _ #[.agg #[.int .u64 cm, .int .u64 cl, .int .u64 co, .int .u64 ct, .slice ra rn rcap], .slice qa qn qc] w _
  cases d with
  | false =>
    go_enter Try.func11, Try.ntmps11
    go_wp2_with (go_at_call 20; rw [← hW0]; refine HCHK.out.mono ?_; rintro e w2 ⟨rfl, hb⟩; have HB2 := Lib.hid hb; clear hb)
    go_ret
    exact HNO.out _ HB2.out (by simp)
  | true =>
    by_cases hq20 : 20 < qn
    · have hq1 : (20 : Int) < (qn : Int) := by omega
      have hq2 : decide ((20 : Int) < (qn : Int)) = true := decide_eq_true hq1
      go_enter Try.func11, Try.ntmps11
      go_wp2_with (go_at_call 20; rw [← hW0]; refine HCHK.out.mono ?_; rintro e w2 ⟨rfl, hb⟩; have HB2 := Lib.hid hb; clear hb)
      go_ret
      exact HNO.out _ HB2.out (.inr hq20)
    · have hq1 : ¬ (20 : Int) < (qn : Int) := by omega
      have hq2 : decide ((20 : Int) < (qn : Int)) = false := decide_eq_false hq1
      have hn2 : rn ≤ 200 := by
        obtain ⟨-, h, -, -⟩ := File.check_parts HD.out
        have h : (ruls xs).length ≤ 200 := h
        rw [HLN.out] at h; exact h
      have HOK : Hid (Stp.ok (Cw.c ⟨cm, cl, co, ct, ra, rn, rcap, xs⟩) zs = true) := Lib.hid (by unfold Stp.ok; rw [HD.out, HQ.out.1, decide_eq_true (show qn ≤ 20 by omega)]; rfl)
      have HAT : Hid (∀ (k : Nat) W, k ≤ qn → Below W0.heap.size W0 W → Calls Try.prog 21 #[.agg #[.int .u64 cm, .int .u64 cl, .int .u64 co, .int .u64 ct, .slice ra rn rcap], .slice qa qn qc, .int .i64 (k : Int)] W fun e w' => StepsIs w0 W w' e (Stp.here (Cw.c ⟨cm, cl, co, ct, ra, rn, rcap, xs⟩) (zs.drop k))) := Lib.hid fun k W hkq hb =>
        rat17_is ⟨cm, cl, co, ct, ra, rn, rcap, xs⟩ qa qn qc zs k w0 W (HW00.out.trans (hb.mono HW00.out.size)) HC.out HQ.out (by omega) hn2 (chk_sides8 HD.out) hkq
      go_enter Try.func11, Try.ntmps11
      go_wp2_with (go_at_call 20; rw [← hW0]; refine HCHK.out.mono ?_; rintro e w2 ⟨rfl, hb⟩; have HB2 := Lib.hid hb; clear hb)
      clear hW0
      go_loopw [6, 7] (fun ov ix wr => ∃ (k cp : Nat) (a : Option Addr) (ys : List Lw), ov = .slice a k cp ∧ ix = .int .i64 (k : Int) ∧ k ≤ qn + 1 ∧ Hid (AllP w0 wr W0.heap.size a k cp ys) ∧ Hid (a = none → cp = 0) ∧ Hid (lsts ys = (Stp.all (Cw.c ⟨cm, cl, co, ct, ra, rn, rcap, xs⟩) zs).take k) ∧ Hid (Below W0.heap.size W0 wr)) (fun _ ix _ => qn + 1 - (intOf ix).toNat)
      case atStart => exact ⟨0, 0, none, [], rfl, rfl, Nat.zero_le _, ⟨World.ownsRow_nil _ _ _ _, by simp, rfl, HW00.out.trans (HB2.out.mono HW00.out.size)⟩, fun _ => rfl, rfl, HB2.out⟩
      case round =>
        obtain ⟨k, cp, a, ys, rfl, rfl, hk1, HA, HNL, HT, HBR⟩ := hrel
        obtain ⟨k0, k1, k2, k3, k4⟩ := HKP.out _ HBR.out
        by_cases hkq : k ≤ qn
        · have hki : (k : Int) ≤ (qn : Int) := by omega
          have hkd : decide ((k : Int) ≤ (qn : Int)) = true := decide_eq_true hki
          have HKQ := Lib.hid hkq
          go_wp2_with (first
            | (go_at_call 21; refine (HAT.out k _ HKQ.out HBR.out).mono ?_; rintro e w3 ⟨a3, n3, c3, ys3, rfl, hm3, ht3, hn3, hb3⟩; have HM3 : Hid (MadeP w0 w3 w0.heap.size a3 n3 c3 ys3) := Lib.hid (hm3.lower17 HA.out.bel.size); have HT3 := Lib.hid ht3; have HB3 : Hid (Below W0.heap.size W0 w3) := Lib.hid (HBR.out.trans (hb3.mono HBR.out.size)); have HA3 := Lib.hid (HA.out.below hb3); clear hm3 ht3 hn3 hb3)
            | (at_builtin; refine append_one_list (by rfl) (.tmp 23) (.tmp 28) (by rfl) W0.heap.size _ k ys (by rfl) (by exact (HA3.out.below ((Below.refl _ w3).alloc (Nat.le_refl _) _)).own) w3.heap.size ⟨a3, n3, c3, ys3⟩ (by rfl) (by rw [World.cell?_alloc_mark]; rfl) (k + 1) rfl (by omega) (by have := HB3.out.size; simp; omega) ?_; intro a6 c6 w6 hown6 hb6 hgrow6 hnil6)
            | fail)
          have HA6 : Hid (AllP w0 w6 W0.heap.size a6 (k + 1) c6 (ys ++ [⟨a3, n3, c3, ys3⟩])) := Lib.hid ((HA3.out.below ((Below.refl _ w3).alloc (Nat.le_refl _) _)).push HW00.out.size (fun y hy => by rw [List.mem_singleton.1 hy]; exact HM3.out.below ((Below.refl _ w3).alloc (Nat.le_refl _) _)) (by rw [HA3.out.len]; rfl) hown6 hb6 hgrow6)
          have HB6 : Hid (Below W0.heap.size W0 w6) := Lib.hid ((HB3.out.alloc HB3.out.size _).trans hb6)
          have HN6 := Lib.hid hnil6
          have HT6 : Hid (lsts (ys ++ [⟨a3, n3, c3, ys3⟩]) = (Stp.all (Cw.c ⟨cm, cl, co, ct, ra, rn, rcap, xs⟩) zs).take (k + 1)) := Lib.hid (by
            rw [lsts_app, HT.out, Stp.all_take HOK.out (by rw [HQ.out.1]; exact HKQ.out)]
            show _ ++ [stps ys3] = _
            rw [HT3.out])
          clear hown6 hb6 hgrow6 hnil6 k0 k1 k2 k3 k4
          go_wp2
          go_roundw
          case rel => exact ⟨k + 1, c6, a6, _, by go_num, by go_num, by omega, HA6.out, HN6.out, HT6.out, HB6.out⟩
          case measure => simp [intOf]; omega
        · have hki : ¬ (k : Int) ≤ (qn : Int) := by omega
          have hkd : decide ((k : Int) ≤ (qn : Int)) = false := decide_eq_false hki
          have HKE : Hid (k = qn + 1) := Lib.hid (by omega)
          clear k0 k1 k2 k3 k4
          go_wp2
          go_ret
          have hbw : Below w.heap.size w wr := HW.out.trans (HBR.out.mono HW.out.size)
          refine ⟨a, k, cp, ys, rfl, HA.out.lowerR HW.out.size, ?_, HNL.out, hbw⟩
          rw [HT.out, List.take_of_length_le]
          rw [Stp.all_len, if_pos HOK.out, HQ.out.1, HKE.out]
          exact Nat.le_refl _
end Go.Proofs.Ytpcebfefbnpbpaa
