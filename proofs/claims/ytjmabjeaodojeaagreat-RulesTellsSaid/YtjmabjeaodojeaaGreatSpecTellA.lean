/- Used by the law. -/
import Derived.Test.YtjmabjeaodojeaaGreatSpecSide
import Derived.Test.YtjmabjeaodojeaaGreatRuleSteps
import Derived.Test.YtjmabjeaodojeaaGreatOrderWords
import Derived.Test.YtjmabjeaodojeaaGreatGenApp
namespace Go.Proofs.YtjmabjeaodojeaaGreat
open Go.RowKit

theorem grown3 (w : World) (a b c : Obj) : w.grownBy (((w.alloc a).alloc b).alloc c) none :=
  ((World.grownBy_alloc w a none).trans (World.grownBy_alloc _ b none)).trans (World.grownBy_alloc _ c none)
theorem Acc.row {base : Nat} {w : World} {v : Value} {outs : List Rw} (h : Acc base w v outs) : ∀ g, v.ownBlock = some g → base ≤ g ∧ g < w.heap.size := fun g hg => h.1.lt g hg

set_option maxRecDepth 100000 in
theorem steps_append_high {ops : Array Oper} {Q : Exit → Act → World → Prop} {o : Oper} {a : Act} {w : World} {R : Value → World → Prop} (hg : o.guard = none) (s x : Operand) (ho : o.op = .call { callee := .builtin .append, args := #[s, x], argTypes := #[24, 24] }) {base B : Nat} {v : Value} {outs : List Rw} (hs : a.eval s = v) (hacc : Acc base w v outs)
    (hrow : ∀ g, v.ownBlock = some g → g < B) {rs : List Rul} {u : Value} (hx : a.eval x = u) (hu : NewRules B rs u w) (hm : 0 < rs.length) (hN : outs.length + rs.length ≤ 400000) (hbase : base ≤ w.heap.size)
    (hR : ∀ v' w' zs, ruls zs = rs → (∀ z ∈ zs, z.High B) → Acc base w' v' (outs ++ zs) → w.grownBy w' v.ownBlock → (v.ownBlock = v'.ownBlock ∨ v'.ownBlock = some w.heap.size) → R v' w') : StepsTo Tryz.prog ops Q o a w R := by
  obtain ⟨p, zs, rfl, hz, hr, hh, hp⟩ := hu
  have hzl : zs.length = rs.length := by rw [← hr, ruls_length]
  intro K hK
  obtain ⟨i0, hi, hz0, hz1, hz2⟩ := info_parts info_rule
  obtain ⟨y, hy, hnews⟩ := hz.news hm
  refine step_append_lies w hg s x 24 ho base 39 i0 _ 3 56 Tryz.underlying24 hi hz0 hz1 hz2 rfl (by decide) v outs.length (rcells outs) hs hacc.1 ⟨p, 0, none⟩ rs.length rs.length (rcells zs) hx (by rw [rcells_length, hzl])
    (by cases hy; exact hnews) (rcells_one zs) hm (by unfold maxLen; omega) (by omega) hbase _ rfl ?_
  intro g c w' hown hgr hat hlt
  refine hK _ _ (hR _ w' zs hr hh ⟨?_, fun q hq => ?_⟩ hgr ?_)
  · rw [rcells_app]
    have : (outs ++ zs).length = outs.length + rs.length := by rw [List.length_append, hzl]
    rw [this]; exact hown
  · have hfar : ∀ q : Rw, q.Good w → q.Far v.ownBlock → q.Good w' ∧ q.Far (some g) := fun q hq hf => ⟨hq.grown hgr hf, by
      rcases hat with h | h
      · rw [← h]; exact hf
      · rw [h]; exact hq.fresh (Nat.le_refl _)⟩
    rcases List.mem_append.1 hq with hq | hq
    · exact hfar q (hacc.2 q hq).1 (hacc.2 q hq).2
    · exact hfar q (hz.2.2.2.1 q hq) ((hh q hq).far hrow)
  · rcases hat with h | h
    · exact .inl h
    · exact .inr (by rw [h]; rfl)

set_option maxHeartbeats 1600000 in
set_option maxRecDepth 100000 in
theorem appendUnlike_is (base : Nat) (v : Value) (outs : List Rw) (x y C : Int) (rs : List Rul) (w : World) (hacc : Acc base w v outs) (hbase : base ≤ w.heap.size) (hx : (Lit.int .i64 x).wf = true) (hy : (Lit.int .i64 y).wf = true)
    (hC : 0 ≤ C ∧ C < 18446744073709551616) (hn : outs.length ≤ 200000) (hr : (if x = y then [] else [⟨[x], [y], C⟩]) = rs) :
    Calls Tryz.prog 96 #[v, .int .i64 x, .int .i64 y, .int .u64 C] w fun e w' => ∃ v' zs, e = .returned v' ∧ ruls zs = rs ∧ (∀ z ∈ zs, z.High w.heap.size) ∧ Acc base w' v' (outs ++ zs) ∧ w.grownBy w' v.ownBlock ∧ (v'.ownBlock = v.ownBlock ∨ ∃ g, v'.ownBlock = some g ∧ w.heap.size ≤ g) := by
  have HACC := Lib.hid hacc
  by_cases he : x = y
  · subst he
    rw [if_pos rfl] at hr
    subst hr
    clear hacc
    go_enter Tryz.func96, Tryz.ntmps96
    go_wp2
    go_ret
    exact ⟨v, [], rfl, rfl, by simp, by simpa using HACC.out, World.grownBy.refl _ _, .inl rfl⟩
  · have heb : (x == y) = false := by simpa using he
    rw [if_neg he] at hr
    subst hr
    have HROW : Hid (∀ g, v.ownBlock = some g → g < w.heap.size) := fun g hg => (hacc.row g hg).2
    have HA3 : Hid (∀ a b c, Acc base (((w.alloc a).alloc b).alloc c) v outs) := fun a b c => hacc.kept (grown3 w a b c)
    have HBS : Hid (∀ a b c, base ≤ (((w.alloc a).alloc b).alloc c).heap.size) := fun a b c => by simp; omega
    have HNR : Hid (∀ t1 t2, NewRules w.heap.size [⟨[x], [y], C⟩] (.slice (some ⟨w.heap.size + 2, 0, none⟩) 1 1) (((w.alloc (.cells #[.int .i64 x] t1)).alloc (.cells #[.int .i64 y] t2)).alloc (.cells #[.slice (some ⟨w.heap.size, 0, none⟩) 1 1, .slice (some ⟨w.heap.size + 1, 0, none⟩) 1 1, .int .u64 C] 39))) := fun t1 t2 => by
      have h1 : Sl .i64 (w.alloc (.cells #[.int .i64 x] t1)) (some ⟨w.heap.size, 0, none⟩) 1 1 [x] := Sl.lay [x] (by simpa using hx) (by unfold maxLen; simp) rfl rfl rfl
      have h2 : Sl .i64 ((w.alloc (.cells #[.int .i64 x] t1)).alloc (.cells #[.int .i64 y] t2)) (some ⟨w.heap.size + 1, 0, none⟩) 1 1 [y] := Sl.lay [y] (by simpa using hy) (by unfold maxLen; simp) (by simp) rfl rfl
      have h3 := newRules_alloc (B := w.heap.size) (w := (w.alloc (.cells #[.int .i64 x] t1)).alloc (.cells #[.int .i64 y] t2)) (by simp; omega) [⟨some ⟨w.heap.size, 0, none⟩, 1, 1, [x], some ⟨w.heap.size + 1, 0, none⟩, 1, 1, [y], C⟩]
        (by intro z hz; rw [List.mem_singleton.1 hz]; exact ⟨⟨h1.alloc _, h2, hC⟩, _, _, rfl, rfl, Nat.le_refl _, by omega⟩) (by simp)
      have e : ((w.alloc (.cells #[.int .i64 x] t1)).alloc (.cells #[.int .i64 y] t2)).heap.size = w.heap.size + 2 := by simp
      rw [e] at h3
      exact h3
    have HNN := Lib.hid hn
    clear hacc he hn
    go_enter Tryz.func96, Tryz.ntmps96
    go_wp2_with (at_builtin
                 refine wpList_step fun K hK => ?_
                 refine steps_append_high (R := fun v' w' => ∃ zs, ruls zs = [⟨[x], [y], C⟩] ∧ (∀ z ∈ zs, z.High w.heap.size) ∧ Acc base w' v' (outs ++ zs) ∧ w.grownBy w' v.ownBlock ∧ (v'.ownBlock = v.ownBlock ∨ ∃ g, v'.ownBlock = some g ∧ w.heap.size ≤ g)) (by rfl) (.tmp 13) (.tmp 20) (by rfl) (base := base) (B := w.heap.size) (v := v) (outs := outs) (by rfl) (HA3.out _ _ _) HROW.out (rs := [⟨[x], [y], C⟩]) (u := .slice (some ⟨w.heap.size + 2, 0, none⟩) 1 1) (by rfl) (HNR.out _ _) (by simp) (by have := HNN.out; simp; omega) (HBS.out _ _ _) ?_ K ?_
                 · intro v' w' zs h1 h0 h2 h3 h4
                   refine ⟨zs, h1, h0, h2, ?_, ?_⟩
                   · exact ⟨h3.os, h3.tape, h3.output, Nat.le_trans (by simp; omega) h3.size, fun k hk hne => (h3.block k (by simp; omega) hne).trans ((grown3 w _ _ _).block k hk (by simp))⟩
                   · rcases h4 with h4 | h4
                     · exact .inl h4.symm
                     · exact .inr ⟨_, h4, by simp; omega⟩
                 intro v' w' hR
                 have HR := Lib.hid hR
                 clear hR
                 refine hK _ _ ?_
                 clear hK)
    go_ret
    obtain ⟨zs, h1, h0, h2, h3, h4⟩ := HR.out
    exact ⟨v', zs, rfl, h1, h0, h2, h3, h4⟩

theorem sides_one (xs : List Wd) : ∀ u ∈ vals xs, u.oneCell' = true := by
  intro u hu
  obtain ⟨x, _, rfl⟩ := List.mem_map.1 hu
  rfl
set_option maxRecDepth 100000 in
theorem info_sl : (Tryz.prog.info? 37).map (fun i => (i.zero, i.size, i.bytes)) = some (some (.slice none 0 0), 1, 24) := by kernel_rfl
set_option maxRecDepth 100000 in
theorem append_side {w : World} {ops : Array Oper} {rest : List Oper} {o : Oper} {act : Act} {Q : Exit → Act → World → Prop} (hw : Region.wanted o (yielded ops act.tmps) = true) (s x : Operand)
    (ho : o.op = .call { callee := .builtin .append, args := #[s, x], argTypes := #[70, 70] }) (base : Nat) (v : Value) (n : Nat) (xs : List Wd) (hs : act.eval s = v)
    (hown : w.ownsRow base 37 1 v n (vals xs)) (y : Wd) (p : Nat) (hx : act.eval x = .slice (some ⟨p, 0, none⟩) 1 1) (hy : w.cell? ⟨p, 0, none⟩ = some y.v) (hn : n ≤ 100000) (hbase : base ≤ w.heap.size)
    (h : ∀ a' c' w', w'.ownsRow base 37 1 (.slice a' (n + 1) c') (n + 1) (vals (xs ++ [y])) → Below base w w' → (a' = none → c' = 0) → wpList Tryz.prog ops Q rest (act.put o.dst (.slice a' (n + 1) c')) w') :
    wpList Tryz.prog ops Q (o :: rest) act w := by
  refine wpList_step fun K hK => ?_
  rw [if_pos hw]
  refine wp_append_cells s x 70 37 ho _ 1 24 Tryz.underlying70 info_sl rfl (by omega) base v n (vals xs) hs hown (some ⟨p, 0, none⟩) 1 1 (vals [y]) hx (by simp [vals]) (fun _ => ⟨_, rfl, ?_⟩) (sides_one [y]) (by unfold maxLen; omega) (by omega) hbase ?_
  · intro j u hj
    match j, hj with
    | 0, hj =>
      simp [vals] at hj
      subst hj
      simpa [Addr.add] using hy
    | j + 1, hj => simp [vals] at hj
  · intro a' c' w' h1 h2 _ h4
    exact hK _ _ (h a' c' w' (by rw [vals_app]; exact h1) h2 h4)

def SidesIs (w0 w w' : World) (e : Ending) (l : List (List Int)) : Prop :=
  ∃ a' m c' ys, e = .returned (.slice a' m c') ∧ Ws w' a' m c' ys ∧ nums ys = l ∧ Below w.heap.size w w' ∧ ∀ (W' : World) (k : Nat), w0.heap.size ≤ k → k < w.heap.size → w'.grownBy W' (some k) → Ws W' a' m c' ys
theorem cell_new1 (w : World) (v : Value) (t : TypeId) : (w.alloc (.cells #[v] t)).cell? ⟨w.heap.size, 0, none⟩ = some v := by rw [World.cell?_alloc_mark]; rfl
theorem side_part {w : World} {b off n cap : Nat} {zs : List Int} (h : Sl .i64 w (some ⟨b, off, none⟩) n cap zs) (f i : Nat) (hf : f ≤ i) (hi : i ≤ n) : Sl .i64 w (some ⟨b, off + f, none⟩) (i - f) (cap - f) ((zs.take i).drop f) := by
  have := (h.first i hi).piece f (i - f) (by omega)
  rw [show ((zs.take i).drop f).take (i - f) = (zs.take i).drop f from List.take_of_length_le (by simp; omega)] at this
  exact this

theorem owns_nil_sides (w : World) (B : Nat) : w.ownsRow B 37 1 (.slice none 0 0) 0 (vals []) := ⟨rfl, .inl ⟨rfl, rfl⟩⟩

set_option maxHeartbeats 3200000 in
set_option maxRecDepth 100000 in
theorem rows_is (a : Option Addr) (n cap : Nat) (l : List Int) (w0 w : World) (hs : Sl .i64 w0 a n cap l) (hb0 : Below w0.heap.size w0 w) (hnil : (a = none ∧ cap = 0) ∨ ∃ b off, a = some ⟨b, off, none⟩) (hn : n ≤ 10000) :
    Calls Tryz.prog 94 #[.slice a n cap] w fun e w' => SidesIs w0 w w' e (Spec.rowsA [] l) := by
  have hnc := hs.2.1
  have hcm := hs.2.2.1
  unfold maxLen at hcm
  have HS := Lib.hid hs
  have HNIL := Lib.hid hnil
  have HL := Lib.hid hs.1
  have HB0 := Lib.hid hb0
  clear hs hnil hb0
  go_enter Tryz.func94, Tryz.ntmps94
  go_wp2
  go_loopw [3, 4, 9] (fun ov fv ix wr => ∃ (i f : Nat) (a' : Option Addr) (L c' : Nat) (outs : List Wd), f ≤ i ∧ i ≤ n ∧ L ≤ i ∧ ix = .int .i64 (i : Int) ∧ fv = .int .i64 (f : Int) ∧ ov = .slice a' L c' ∧ Hid (wr.ownsRow w.heap.size 37 1 (.slice a' L c') L (vals outs)) ∧
      Hid (outs.length = L) ∧ Hid (∀ x ∈ outs, x.Good w0) ∧ Hid (nums outs ++ Spec.rowsA ((l.take i).drop f) (l.drop i) = Spec.rowsA [] l) ∧ Hid (a' = none → c' = 0) ∧ Hid (Below w.heap.size w wr)) (fun _ _ ix _ => n - (intOf ix).toNat)
  case atStart => exact ⟨0, 0, none, 0, 0, [], Nat.le_refl _, Nat.zero_le _, Nat.le_refl _, rfl, rfl, rfl, owns_nil_sides _ _, rfl, (by first | exact (trivial : True) | (intro x hx; simp at hx)), (by first | exact (trivial : True) | (show _ = _; simp [nums])), (fun _ => rfl), Below.refl _ _⟩
  case round =>
    obtain ⟨i, f, a', L, c', outs, hfi, hin, hLi, rfl, rfl, rfl, HO, HOL, HG, HE, HN, HBR⟩ := hrel
    have hz9 := HBR.out.size
    have HBZ : Hid (Below w0.heap.size w0 wr) := HB0.out.trans (HBR.out.mono HB0.out.size)
    by_cases hlt : i < n
    · obtain ⟨b, off, rfl, hbw, hc⟩ := HS.out.at (by omega)
      have hx1 : wr.cell? ⟨b, off + i, none⟩ = some (.int .i64 (l.getD i 0)) := by
        rw [HBZ.out.cell (p := ⟨b, off + i, none⟩) hbw]; exact hc i hlt
      have hat := Spec.rowsA_at (b := l) hfi (by rw [HL.out]; exact hlt)
      obtain ⟨x, hx⟩ : ∃ x, x = l.getD i 0 := ⟨_, rfl⟩
      rw [← hx] at hx1 hat
      have hlti : (i : Int) < (n : Int) := by omega
      have HP : Hid (Sl .i64 w0 (some ⟨b, off + f, none⟩) (i - f) (cap - f) ((l.take i).drop f)) := side_part HS.out f i hfi hin
      clear hc hx
      by_cases he : x = 124
      · subst he
        rw [if_pos rfl] at hat
        have hnext : nums (outs ++ [⟨some ⟨b, off + f, none⟩, i - f, cap - f, (l.take i).drop f⟩]) ++ Spec.rowsA ((l.take (i + 1)).drop (i + 1)) (l.drop (i + 1)) = Spec.rowsA [] l := by
          rw [← HE.out, hat, nums_app]; simp [nums]
        have HNX := Lib.hid hnext
        have hfi1 : (f : Int) ≤ (i : Int) := by omega
        have hf0 : (0 : Int) ≤ (f : Int) := by omega
        have hic : (i : Int) ≤ (cap : Int) := by omega
        have hfc1 : ¬ (f : Int) = (cap : Int) := by omega
        have hfc2 : ¬ (cap : Int) = (f : Int) := by omega
        have hfc3 : ¬ cap = f := by omega
        clear hat hnext
        go_wp2_with (at_builtin; refine append_side (by rfl) (.tmp 16) (.tmp 21) (by rfl) w.heap.size _ L outs (by rfl) (HO.out.alloc _) ⟨some ⟨b, off + f, none⟩, i - f, cap - f, (l.take i).drop f⟩ wr.heap.size (by rfl) (cell_new1 _ _ _) (by omega) (by simp; omega) ?_
                     intro a5 c5 w5 hown5 hb5 hnil5
                     have HO5 := Lib.hid hown5
                     have HN5 := Lib.hid hnil5
                     have HB5 : Hid (Below w.heap.size w w5) := (HBR.out.alloc hz9 _).trans hb5
                     clear hown5 hnil5 hb5)
        go_roundw
        case rel =>
          refine ⟨i + 1, i + 1, a5, L + 1, c5, _, Nat.le_refl _, by omega, by omega, by go_num, by go_num, rfl, HO5.out, (by show _ = _; rw [List.length_append, HOL.out]; rfl), ?_, HNX.out, HN5.out, HB5.out⟩
          intro x hx
          rcases List.mem_append.1 hx with hx | hx
          · exact HG.out x hx
          · rw [List.mem_singleton.1 hx]; exact HP.out
        case measure => simp [intOf]; omega
      · have he1 : (x == 124) = false := by simpa using he
        rw [if_neg he] at hat
        have hnext := HE.out
        rw [hat] at hnext
        have HNX := Lib.hid hnext
        clear hat hnext
        go_wp2
        go_roundw
        case rel => exact ⟨i + 1, f, a', L, c', outs, by omega, by omega, by omega, by go_num, rfl, rfl, HO.out, HOL.out, HG.out, HNX.out, HN.out, HBR.out⟩
        case measure => simp [intOf]; omega
    · obtain rfl : i = n := by omega
      have hend : nums outs ++ [l.drop f] = Spec.rowsA [] l := by
        rw [← HE.out]
        congr 1
        have := (Spec.rowsA_end (b := l) (f := f)).symm
        rw [HL.out] at this
        exact this
      have HND := Lib.hid hend
      clear hend
      have hf0 : (0 : Int) ≤ (f : Int) := by omega
      have hfi1 : (f : Int) ≤ (i : Int) := by omega
      have hfcap : (f : Int) ≤ (cap : Int) := by omega
      have fin : ∀ (y : Wd) (a5 : Option Addr) (c5 : Nat) (w5 : World), y.Good w0 → y.zs = l.drop f → w5.ownsRow w.heap.size 37 1 (.slice a5 (L + 1) c5) (L + 1) (vals (outs ++ [y])) → Below w.heap.size w w5 → SidesIs w0 w w5 (.returned (.slice a5 (L + 1) c5)) (Spec.rowsA [] l) := by
        intro y a5 c5 w5 hy hyz ho hb
        have hbz : Below w0.heap.size w0 w5 := HB0.out.trans (hb.mono HB0.out.size)
        have hgood : ∀ x ∈ outs ++ [y], x.Good w0 := fun x hx => by
          rcases List.mem_append.1 hx with hx | hx
          · exact HG.out x hx
          · rw [List.mem_singleton.1 hx]; exact hy
        refine ⟨a5, L + 1, c5, _, rfl, Ws.of_owns ho (fun x hx => (hgood x hx).below hbz (Nat.le_refl _)) (by simp [HOL.out]), ?_, hb, fun W' k h1 h2 hg => Ws.of_owns (ho.kept hg (.inr (fun e => ?_))) (fun x hx => (hgood x hx).below (hbz.grown hg hbz.size (fun k' hk' => by cases hk'; exact h1)) (Nat.le_refl _)) (by simp [HOL.out])⟩
        · rw [nums_app, ← HND.out]; simp [nums, hyz]
        · have := (ho.lt _ e).1
          omega
      have FIN := Lib.hid fin
      clear fin
      rcases HNIL.out with ⟨rfl, rfl⟩ | ⟨b, off, rfl⟩
      · obtain rfl : i = 0 := by omega
        obtain rfl : f = 0 := by omega
        have HYG : Hid (Wd.Good w0 ⟨none, 0, 0, []⟩) := Sl.nil
        have HYZ : Hid (([] : List Int) = l.drop 0) := by
          show _ = _
          have : l = [] := List.eq_nil_of_length_eq_zero HL.out
          rw [this]; rfl
        go_wp2_with (at_builtin; refine append_side (by rfl) (.tmp 26) (.tmp 30) (by rfl) w.heap.size _ L outs (by rfl) (HO.out.alloc _) ⟨none, 0, 0, []⟩ wr.heap.size (by rfl) (cell_new1 _ _ _) (by omega) (by simp; omega) ?_
                     intro a5 c5 w5 hown5 hb5 hnil5
                     have HO5 := Lib.hid hown5
                     have HB5 : Hid (Below w.heap.size w w5) := (HBR.out.alloc hz9 _).trans hb5
                     clear hown5 hnil5 hb5)
        go_ret
        exact FIN.out _ _ _ _ HYG.out HYZ.out HO5.out HB5.out
      · by_cases hfc : f = cap
        · obtain rfl : cap = i := by omega
          subst hfc
          have HYG : Hid (Wd.Good w0 ⟨some ⟨b, off, none⟩, 0, 0, []⟩) := ⟨rfl, Nat.le_refl _, Nat.zero_le _, by simp, .inl rfl⟩
          have HYZ : Hid (([] : List Int) = l.drop f) := by
            show _ = _
            rw [List.drop_eq_nil_of_le (by rw [HL.out]; exact Nat.le_refl _)]
          go_wp2_with (at_builtin; refine append_side (by rfl) (.tmp 26) (.tmp 30) (by rfl) w.heap.size _ L outs (by rfl) (HO.out.alloc _) ⟨some ⟨b, off, none⟩, 0, 0, []⟩ wr.heap.size (by rfl) (cell_new1 _ _ _) (by omega) (by simp; omega) ?_
                       intro a5 c5 w5 hown5 hb5 hnil5
                       have HO5 := Lib.hid hown5
                       have HB5 : Hid (Below w.heap.size w w5) := (HBR.out.alloc hz9 _).trans hb5
                       clear hown5 hnil5 hb5)
          go_ret
          exact FIN.out _ _ _ _ HYG.out HYZ.out HO5.out HB5.out
        · have hfc1 : ¬ (f : Int) = (cap : Int) := by omega
          have hfc2 : ¬ (cap : Int) = (f : Int) := by omega
          have hfc3 : ¬ cap = f := by omega
          have HYG : Hid (Wd.Good w0 ⟨some ⟨b, off + f, none⟩, i - f, cap - f, (l.take i).drop f⟩) := side_part HS.out f i hfi hin
          have HYZ : Hid ((l.take i).drop f = l.drop f) := by
            show _ = _
            rw [List.take_of_length_le (by rw [HL.out]; exact Nat.le_refl _)]
          go_wp2_with (at_builtin; refine append_side (by rfl) (.tmp 26) (.tmp 30) (by rfl) w.heap.size _ L outs (by rfl) (HO.out.alloc _) ⟨some ⟨b, off + f, none⟩, i - f, cap - f, (l.take i).drop f⟩ wr.heap.size (by rfl) (cell_new1 _ _ _) (by omega) (by simp; omega) ?_
                       intro a5 c5 w5 hown5 hb5 hnil5
                       have HO5 := Lib.hid hown5
                       have HB5 : Hid (Below w.heap.size w w5) := (HBR.out.alloc hz9 _).trans hb5
                       clear hown5 hnil5 hb5)
          go_ret
          exact FIN.out _ _ _ _ HYG.out HYZ.out HO5.out HB5.out

end Go.Proofs.YtjmabjeaodojeaaGreat
