/- Used by the law. -/
import Derived.Test.YtjmabjeaodojeaaGreatPackA
import Derived.Test.YtjmabjeaodojeaaGreatPackB
import Derived.Test.YtjmabjeaodojeaaGreatPackQ
import Derived.Test.YtjmabjeaodojeaaGreatNumRef
import Derived.Test.YtjmabjeaodojeaaGreatRuleRefB
import Derived.WalkArith
import Derived.Laws.AppendOwn
namespace Go.Proofs.YtjmabjeaodojeaaGreat
open Go.RowKit

def SpecIs (w w' : World) (e : Ending) (s : Spec.Sp) : Prop :=
  ∃ ba bn bc ra rn rc xs, e = .returned (.tuple #[.agg #[.slice ba bn bc, .slice ra rn rc], .int .i64 s.e]) ∧ Sl .u64 w' ba bn bc s.base ∧ (ba = none → bc = 0) ∧ Rs w' ra rn rc xs ∧ ruls xs = s.rules ∧ (ra = none → rc = 0) ∧ Below w.heap.size w w'
set_option maxRecDepth 100000 in
theorem info_spec : (Tryz.prog.info? 44).map (·.size) = some 2 := by kernel_rfl

theorem spec_cells (x : Option Addr) (n c : Nat) (y : Option Addr) (m d : Nat) : (#[Value.slice x n c, Value.slice y m d] : Array Value).all (·.oneCell') = true := by simp [Value.oneCell']
theorem costs_next {fs : List (List Int)} {f : List Int} : Spec.costs (f :: fs) = match Num.read f with
    | none => none
    | some c => (Spec.costs fs).map fun l => (c : Int) :: l := by
  rw [Spec.costs]
  cases Num.read f with
  | none => rfl
  | some c => cases Spec.costs fs <;> rfl
theorem dropD {l : List (List Int)} {i : Nat} (h : i < l.length) : l.drop i = l.getD i [] :: l.drop (i + 1) := by
  rw [List.drop_eq_getElem_cons h]; simp [h]

set_option maxHeartbeats 3200000 in
set_option maxRecDepth 100000 in
theorem rbase_is (a : Option Addr) (cap : Nat) (ys : List Bd) (s : Spec.Sp) (w : World) (hs : Bs w a 5 cap ys) (hr : Spec.base (bnums ys) = s) :
    Calls Tryz.prog 45 #[.slice a 5 cap] w fun e w' => SpecIs w w' e s := by
  have hnc := hs.2.1
  have hcm := hs.2.2.1
  unfold maxLen at hcm
  have HS := Lib.hid hs
  have HL : Hid ((bnums ys).length = 5) := by show _ = _; rw [bnums_length, hs.1]
  have HR := Lib.hid hr
  have HB : ∀ o, Hid (Below w.heap.size w (w.alloc o)) := fun o => (Below.refl _ w).alloc (Nat.le_refl _) o
  have HI : Hid ((Tryz.prog.info? 44).map (·.size) = some 2) := info_spec
  clear hs hr
  go_enter Tryz.func45, Tryz.ntmps45
  go_wp2
  go_loopw [4, 5] (fun ov ix wr => ∃ (i L c : Nat) (b : Option Addr) (outs : List Int), 1 ≤ i ∧ i ≤ 5 ∧ ix = .int .i64 (i : Int) ∧ ov = .slice b L c ∧ Hid (L + 1 = i) ∧ Hid (wr.ownsRow (w.heap.size + 1) 23 1 (.slice b L c) L (n64s outs)) ∧ Hid (outs.length = L ∧ (b = none → c = 0) ∧ ∀ z ∈ outs, (Lit.int .u64 z).wf = true) ∧
    Hid (Spec.costs ((bnums ys).drop 1) = (Spec.costs ((bnums ys).drop i)).map fun l => outs ++ l) ∧ Hid (wr.heap[w.heap.size]? = some (.cells #[.slice none 0 0, .slice none 0 0] 44 (0, 0))) ∧ Hid (Below w.heap.size w wr ∧ w.heap.size + 1 ≤ wr.heap.size)) (fun _ ix _ => 5 - (intOf ix).toNat)
  case atStart =>
    refine ⟨1, 0, 0, none, [], Nat.le_refl _, by omega, rfl, rfl, rfl, ⟨rfl, .inl ⟨rfl, rfl⟩⟩, ?_, ?_, heap_alloc_new _ _, ?_⟩
    · exact ⟨rfl, fun _ => rfl, by simp⟩
    · show _ = _
      cases Spec.costs ((bnums ys).drop 1) <;> rfl
    · exact ⟨(HB _).out, by simp⟩
  case round =>
    obtain ⟨i, L, c, b, outs, hi1, hi5, rfl, rfl, HLI, HO, HOL, HC, H0, HBW⟩ := hrel
    by_cases hlt : i < 5
    · have hlti : (i : Int) < 5 := by omega
      obtain ⟨b1, o1, a1, n1, c1, z1, rfl, hb1, _, hx1, hs1, hz1⟩ := HS.out.one i hlt
      have hx2 : wr.cell? ⟨b1, o1 + i, none⟩ = some (.slice a1 n1 c1) := by rw [HBW.out.1.cell (p := ⟨b1, o1 + i, none⟩) hb1]; exact hx1
      have HSZ : Hid (Sl .u8 wr a1 n1 c1 z1) := hs1.below HBW.out.1 (Nat.le_refl _)
      have HDR : Hid ((bnums ys).drop i = z1 :: (bnums ys).drop (i + 1)) := by
        show _ = _
        rw [dropD (by rw [HL.out]; exact hlt), hz1]
      clear hb1 hx1 hs1 hz1
      go_wp2_with fail
      refine (rread_any a1 n1 c1 z1 wr HSZ.out).mono ?_
      rintro e w1 ⟨ht, hb⟩
      have HBB : Hid (Below w.heap.size w w1 ∧ w.heap.size + 1 ≤ w1.heap.size) := ⟨HBW.out.1.trans (hb.mono HBW.out.1.size), Nat.le_trans HBW.out.2 hb.size⟩
      have H01 : Hid (w1.heap[w.heap.size]? = some (.cells #[.slice none 0 0, .slice none 0 0] 44 (0, 0))) := (hb.block _ (by have := HBW.out.2; omega)).trans H0.out
      have HO1 : Hid (w1.ownsRow (w.heap.size + 1) 23 1 (.slice b L c) L (n64s outs)) := ownsRow_below HO.out hb (Nat.le_refl _)
      rcases ht with ⟨d, hd, rfl⟩ | ⟨hd, rfl⟩
      · have hdw : d < 18446744073709551616 := by have := (Num.read_some hd).2; omega
        have HN : Hid (Spec.costs ((bnums ys).drop 1) = (Spec.costs ((bnums ys).drop (i + 1))).map fun l => (outs ++ [(d : Int)]) ++ l) := by
          show _ = _
          rw [HC.out, HDR.out, costs_next, hd]
          show ((Spec.costs ((bnums ys).drop (i + 1))).map fun l => (d : Int) :: l).map _ = _
          rw [Option.map_map]
          congr 1
          funext l
          simp
        have HDW : Hid ((Lit.int .u64 (d : Int)).wf = true) := WalkArith.wf_u64 (by omega)
        clear hd hb
        go_wp2_with (at_builtin; refine append_n64 rfl (.tmp 24) (.tmp 26) (by rfl) (w.heap.size + 1) (.slice b L c) L outs (by rfl) (HO1.out.alloc _) (some ⟨w1.heap.size, 0, none⟩) 1 1 [(d : Int)] (by rfl) (Sl.lay [(d : Int)] (by simpa using HDW.out) (by unfold maxLen; simp) rfl rfl rfl) (fun h => by cases h) (L + 1) rfl (by have := HLI.out; omega) (Nat.le_trans HBB.out.2 (by simp)) ?_; intro b9 c9 w9 hown9 hb9; have HO9 := Lib.hid hown9; have HB9 : Hid (Below (w.heap.size + 1) w1 w9) := ((Below.refl _ w1).alloc HBB.out.2 _).trans hb9; clear hown9 hb9)
        have H09 : Hid (w9.heap[w.heap.size]? = some (.cells #[.slice none 0 0, .slice none 0 0] 44 (0, 0))) := (HB9.out.block _ (by omega)).trans H01.out
        have HBN : Hid (Below w.heap.size w w9 ∧ w.heap.size + 1 ≤ w9.heap.size) := ⟨HBB.out.1.trans (HB9.out.mono (Nat.le_succ _)), Nat.le_trans HBB.out.2 HB9.out.size⟩
        have HNF : Hid (b9 = none → c9 = 0) := fun h => by
          subst h
          rcases HO9.out.2 with ⟨hv, _⟩ | ⟨_, _, _, hv, _⟩
          · simp at hv
          · simp at hv
        go_roundw
        case rel =>
          refine ⟨i + 1, L + 1, c9, b9, outs ++ [(d : Int)], by omega, by omega, by go_num, rfl, by have h := HLI.out; show _ = _; omega, HO9.out, ⟨by simp [HOL.out.1], HNF.out, ?_⟩, HN.out, H09.out, HBN.out⟩
          intro z hz
          rcases List.mem_append.1 hz with hz | hz
          · exact HOL.out.2.2 z hz
          · rw [List.mem_singleton.1 hz]; exact HDW.out
        case measure => simp [intOf]; omega
      · obtain rfl : s = Spec.Sp.no 50 := by
          rw [← HR.out]; unfold Spec.base
          rw [HC.out, HDR.out, costs_next, hd]; rfl
        clear hd hb
        go_wp2_with (refine wpList_store_g (by rfl) 44 (.tmp 2) (.tmp 22) (by rfl) w.heap.size #[.slice none 0 0, .slice none 0 0] (by rfl) (by rfl) 44 #[.slice none 0 0, .slice none 0 0] H01.out HI.out rfl (spec_cells _ _ _ _ _ _) ?_
                     intro w5 hw5 hgr5 hsz5
                     have HW5 := Lib.hid hw5
                     have HB5 : Hid (Below w.heap.size w w5) := HBB.out.1.grown hgr5 HBB.out.1.size (fun k hk => by cases hk; exact Nat.le_refl _)
                     clear hw5 hgr5 hsz5)
        refine bodyPost_ret (results_cell_row_tmp rfl _ _ w.heap.size 44 #[.slice none 0 0, .slice none 0 0] (0, 0) _ (by rfl) HW5.out Tryz.underlying44 (by rfl) HI.out) rfl ?_
        exact ⟨none, 0, 0, none, 0, 0, [], rfl, Sl.nil, fun _ => rfl, Rs.nil, rfl, fun _ => rfl, HB5.out⟩
    · obtain rfl : i = 5 := by omega
      have hc : Spec.costs ((bnums ys).drop 1) = some outs := by
        rw [HC.out, List.drop_eq_nil_of_le (show (bnums ys).length ≤ 5 by rw [HL.out]; exact Nat.le_refl _)]
        show some (outs ++ []) = _
        rw [List.append_nil]
      obtain rfl : s = ⟨0, outs, []⟩ := by
        rw [← HR.out]; unfold Spec.base; rw [hc]
      clear hc
      go_wp2_with (refine wpList_store_g (by rfl) 44 (.tmp 2) (.tmp 29) (by rfl) w.heap.size #[.slice b L c, .slice none 0 0] (by rfl) (by rfl) 44 #[.slice none 0 0, .slice none 0 0] H0.out HI.out rfl (spec_cells _ _ _ _ _ _) ?_
                   intro w5 hw5 hgr5 hsz5
                   have HW5 := Lib.hid hw5
                   have HB5 : Hid (Below w.heap.size w w5) := HBW.out.1.grown hgr5 HBW.out.1.size (fun k hk => by cases hk; exact Nat.le_refl _)
                   have HO5 : Hid (w5.ownsRow (w.heap.size + 1) 23 1 (.slice b L c) L (n64s outs)) := HO.out.kept hgr5 (.inr (fun e => by have := (HO.out.lt _ e).1; omega))
                   clear hw5 hgr5 hsz5)
      refine bodyPost_ret (results_cell_row_tmp rfl _ _ w.heap.size 44 #[.slice b L c, .slice none 0 0] (0, 0) _ (by rfl) HW5.out Tryz.underlying44 (by rfl) HI.out) rfl ?_
      exact ⟨b, L, c, none, 0, 0, [], rfl, Sl.of_owns HO5.out HOL.out.2.2 HOL.out.1, HOL.out.2.1, Rs.nil, rfl, fun _ => rfl, HB5.out⟩

end Go.Proofs.YtjmabjeaodojeaaGreat
