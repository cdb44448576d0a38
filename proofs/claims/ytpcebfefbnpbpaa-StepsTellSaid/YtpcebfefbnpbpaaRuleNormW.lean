import Derived.Orders
import Derived.LoopN
import Derived.Test.YtpcebfefbnpbpaaPackH
import Derived.Test.YtpcebfefbnpbpaaPackI
import Derived.Test.YtpcebfefbnpbpaaPackJ
import Derived.Test.YtpcebfefbnpbpaaPackK
set_option linter.all false
set_option maxRecDepth 100000
set_option maxHeartbeats 12800000
namespace Go.Proofs.Ytpcebfefbnpbpaa
open Go.RowKit Go.Maps Go.Sort

theorem below_grew {w w' : World} (h : Below w.heap.size w w') : w.grownBy w' none := ⟨h.os, h.tape, h.output, h.size, fun k hk _ => h.block k hk⟩
theorem isMap_own {w : World} {b n : Nat} {k : TypeId} {R : Value → Option (DataW Unit × List MemPlace)} {D : DataW Unit} (h : w.ownsMap Try.prog k R b n D) : IsMap D := by
  obtain ⟨es, clock, _, _, _, rfl⟩ := h
  exact ⟨_, rfl⟩
theorem grown_below {w w' : World} (h : w.grownBy w' none) : Below w.heap.size w w' := ⟨h.os, h.tape, h.output, h.size, fun k hk => h.block k hk (by simp)⟩
theorem info_partsR : ∃ i, Try.prog.info? 41 = some i ∧ i.zero = some (.agg #[.slice none 0 0, .slice none 0 0, .int .u64 0]) ∧ i.size = 3 ∧ i.bytes = 56 := by
  obtain ⟨i, hi, h⟩ := Option.map_eq_some_iff.1 info_rule
  simp only [Prod.mk.injEq] at h
  exact ⟨i, hi, h.1, h.2.1, h.2.2⟩
/-- the rules collected so far, in the row g; their sides lie in memory of their own, neither there nor in block r -/
def Col (w wr : World) (g r sd L : Nat) (D : DataW Unit) (left : Lit → Bool) (outs : List Rw) : Prop :=
  wr.ownsRow g 41 3 (.slice (some ⟨g, 0, none⟩) L sd) L (rcells outs) ∧ outs.length = L ∧ (∀ x ∈ outs, x.Good wr ∧ x.Far (some g) ∧ x.Far (some r) ∧ ∀ k, k < w.heap.size → x.Far (some k)) ∧ Got D left (ruls outs) ∧ Below w.heap.size w wr
theorem owns_facts {w : World} {base size g n c : Nat} {e : TypeId} {l : List Value} (h : w.ownsRow base e size (.slice (some ⟨g, 0, none⟩) n c) n l) : base ≤ g ∧ g < w.heap.size ∧ n ≤ c ∧ c ≤ maxLen := by
  rcases h.2 with ⟨hv, _⟩ | ⟨g', c', cur, hv, hgB, hh, hnc, hcm, _, _⟩
  · simp at hv
  · simp only [Value.slice.injEq, Option.some.injEq, Addr.mk.injEq] at hv
    obtain ⟨⟨rfl, _, _⟩, _, rfl⟩ := hv
    exact ⟨hgB, (Array.getElem?_eq_some_iff.1 hh).1, hnc, hcm⟩
theorem step_load_at {w : World} {ops : Array Oper} {o : Oper} {act : Act} {K : Act → World → Prop} {Q : Exit → Act → World → Prop} {E : Prop} (hw : Region.wanted o (yielded ops act.tmps) = true) (ty : TypeId) (x : Operand) (ho : o.op = .load ty x)
    (g off : Nat) (hx : act.eval x = .pointer (some ⟨g, off, none⟩)) (l : List Int) (hc : ∀ j v, (l.map (Value.int .i64))[j]? = some v → w.cell? ⟨g, off + j, none⟩ = some v) (d : TypeDesc)
    (hu : Try.prog.underlying ty = some d) (hd : (match d with | .struct _ | .array _ _ => true | _ => false) = true) (hi : (Try.prog.info? ty).map (·.size) = some l.length)
    (h : K (act.put o.dst (.agg (cellsI l))) w) : if Region.wanted o (yielded ops act.tmps) = true then o.wp Try.prog act w K Q else E := by
  rw [if_pos hw]
  have hl : (loadCells ⟨g, off, none⟩ (l.map (Value.int .i64)).length).run Try.prog w = .ok (cellsI l) w :=
    run_loadCells_list (P := Try.prog) w ⟨g, off, none⟩ (l.map (Value.int .i64)) (fun j v hv => by
      have hadd : (⟨g, off, none⟩ : Addr).add j = ⟨g, off + j, none⟩ := by simp [Addr.add]
      rw [hadd]; exact hc j v hv)
  have hrun : (loadVar ty ⟨g, off, none⟩).run Try.prog w = .ok (.agg (cellsI l)) w := by
    cases hq : Try.prog.info? ty with
    | none => simp [hq] at hi
    | some i =>
      have hs : i.size = l.length := by simpa [hq] using hi
      have hagg : (isAgg ty).run Try.prog w = .ok true w := by
        unfold isAgg
        rw [Sem.run_bind, run_underlying hu w]
        cases d <;> simp_all
      rw [List.length_map] at hl
      simp [loadVar, Sem.run_bind, hagg, sizeOf, typeInfo, hq, hs, hl]
  unfold Oper.wp execOp
  simp only [ho, hx, Instr.loadAt, Instr.sureAddr, Sem.run_bind, Sem.run_pure, Result.andThen_ok, hrun]
  exact h
theorem step_append_fit {w : World} {ops : Array Oper} {o : Oper} {act : Act} {K : Act → World → Prop} {Q : Exit → Act → World → Prop} {E : Prop} (hw : Region.wanted o (yielded ops act.tmps) = true) (s x : Operand)
    (ho : o.op = .call { callee := .builtin .append, args := #[s, x], argTypes := #[23, 23] }) (B g k cap : Nat) (xs : List Rw) (hs : act.eval s = .slice (some ⟨g, 0, none⟩) k cap)
    (hown : w.ownsRow B 41 3 (.slice (some ⟨g, 0, none⟩) k cap) k (rcells xs)) (ad : Addr) (m c : Nat) (zs : List Rw) (hx : act.eval x = .slice (some ad) m c) (hz : Rs w (some ad) m c zs) (h0 : 0 < m) (b1 : k + m ≤ cap)
    (h : ∀ w', w'.ownsRow B 41 3 (.slice (some ⟨g, 0, none⟩) (k + m) cap) (k + m) (rcells (xs ++ zs)) → w.grownBy w' (some g) → K (act.put o.dst (.slice (some ⟨g, 0, none⟩) (k + m) cap)) w') :
    if Region.wanted o (yielded ops act.tmps) = true then o.wp Try.prog act w K Q else E := by
  rw [if_pos hw]
  obtain ⟨i0, hi, _, hz1, _⟩ := info_partsR
  obtain ⟨y, hy, hnews⟩ := hz.news h0
  cases hy
  obtain ⟨w', hrun, r1, r2⟩ := run_append_fits (P := Try.prog) w B 23 o.type 41 i0 3 Try.underlying23 hi hz1 g k cap (rcells xs) hown ad m c (rcells zs) (by rw [rcells_length, hz.1]) hnews (rcells_one zs) b1
  unfold Oper.wp
  simp [execOp, ho, resolve, invoke, builtin, hs, hx, hrun, Result.andThen]
  exact h w' (by rw [rcells_app]; exact r1) r2
theorem Rw.Far.high {k : Nat} {x : Rw} {b b' : Nat} (h1 : x.la = some ⟨b, 0, none⟩) (h2 : x.ra = some ⟨b', 0, none⟩) (hb : k < b) (hb' : k < b') : x.Far (some k) :=
  ⟨.inr ⟨b, 0, h1, fun e => by cases e; omega⟩, .inr ⟨b', 0, h2, fun e => by cases e; omega⟩⟩
theorem sides_left {r : Rul} (h8 : r.L.length ≤ 8) {j : Nat} {v : Value} (h : ((sideC true r.L).map (Value.int .i64))[j]? = some v) : (cellsI (sidesC true r))[j]? = some v := by
  have hj : j < ((sideC true r.L).map (Value.int .i64)).length := by
    rcases Nat.lt_or_ge j ((sideC true r.L).map (Value.int .i64)).length with h' | h'
    · exact h'
    · rw [List.getElem?_eq_none h'] at h; cases h
  unfold cellsI sidesC
  rw [if_pos rfl, List.getElem?_toArray, List.map_append, List.getElem?_append_left hj]
  exact h
theorem sides_right {r : Rul} (h8 : r.L.length ≤ 8) {j : Nat} {v : Value} (h : ((sideC true r.R).map (Value.int .i64))[j]? = some v) : (cellsI (sidesC true r))[9 + j]? = some v := by
  have h9 : ((sideC true r.L).map (Value.int .i64)).length = 9 := by rw [List.length_map, sideC_length _ _ (fun _ => h8)]
  unfold cellsI sidesC
  rw [if_pos rfl, List.getElem?_toArray, List.map_append, List.getElem?_append_right (by rw [h9]; omega), h9, Nat.add_sub_cancel_left]
  exact h
theorem lt_one (w : World) (A : Obj) : w.heap.size < (w.alloc A).heap.size := by unfold World.alloc; simp
theorem take_ruls {xs : List Rw} {j : Nat} {x : Rw} (hj : j < xs.length) (hx : xs.getD j Rw.no = x) : (ruls xs).take (j + 1) = (ruls xs).take j ++ [x.r] := by
  have hj' : j < (ruls xs).length := by rw [ruls_length]; exact hj
  rw [List.take_succ_eq_append_getElem hj']
  congr 2
  have := ruls_at xs j
  rw [hx, List.getD_eq_getElem?_getD, List.getElem?_eq_getElem hj', Option.getD_some] at this
  exact this

/-- rules that a call answers, in memory of its own -/
def RulesOwn (w w' : World) (e : Ending) (l : List Rul) (most : Nat) : Prop :=
  ∃ a' n' c' outs, e = .returned (.slice a' n' c') ∧ Rs w' a' n' c' outs ∧ ruls outs = l ∧ n' ≤ most ∧ (a' = none → c' = 0) ∧ Below w.heap.size w w' ∧ w'.ownsRow w.heap.size 41 3 (.slice a' n' c') n' (rcells outs) ∧ (∀ x ∈ outs, x.Far (Value.slice a' n' c').ownBlock) ∧ ∀ k, k < w.heap.size → ∀ x ∈ outs, x.Far (some k)
theorem RulesOwn.is {w w' : World} {e : Ending} {l : List Rul} {most : Nat} (h : RulesOwn w w' e l most) : RulesIs w w' e l most := by
  obtain ⟨a', n', c', outs, h1, h2, h3, h4, h5, h6, _⟩ := h
  exact ⟨a', n', c', outs, h1, h2, h3, h4, h5, h6⟩
theorem norm_own (a : Option Addr) (n cap : Nat) (xs : List Rw) (w : World) (hs : Rs w a n cap xs) (hn : n ≤ 20000) :
    Calls Try.prog 33 #[.slice a n cap] w fun e w' => RulesOwn w w' e (nrm (ruls xs)) n := by
  have hnc := hs.2.1
  have hcm := hs.2.2.1
  unfold maxLen at hcm
  have hmm := @run_makeMap Try.prog
  have HS := Lib.hid hs
  have HXN := Lib.hid hs.1
  clear hs
  go_enter Try.func33, Try.ntmps33
  go_wp2
  go_loopw [16] (fun ix wr => ∃ (j : Nat) (D : DataW Unit), j ≤ n ∧ ix = .int .i64 (j : Int) ∧ Hid (wr.ownsMap Try.prog 66 (plainElem Try.prog 22) w.heap.size j D) ∧ Hid (Least keyR ((ruls xs).take j) (costAt D)) ∧ Hid (Below w.heap.size w wr)) (fun ix _ => n - (intOf ix).toNat)
  case atStart =>
    refine ⟨0, .map [], Nat.zero_le _, rfl, World.ownsMap_made _ _ _ _, ?_, (Below.refl _ w).alloc (Nat.le_refl _) _⟩
    have e : costAt (.map [] : DataW Unit) = fun _ => none := funext fun k => costAt_empty k
    show Least _ _ _
    rw [e]; exact Least.start keyR
  case round =>
    obtain ⟨j, D, hj, rfl, HOW, HLE, HBW⟩ := hrel
    by_cases hlt : j < n
    · obtain ⟨b1, o1, la, ln, lc, LL, ra, rn, rc, RR, C, rfl, hb1, hx1, hx2, hx3, hsl, hsr, hC0, hC1, hz1⟩ := HS.out.one j hlt
      have hB := HBW.out
      have hx1' : wr.cell? ⟨b1, o1 + j * 3, none⟩ = some (.slice la ln lc) := by rw [hB.cell (p := ⟨b1, o1 + j * 3, none⟩) hb1]; exact hx1
      have hx2' : wr.cell? ⟨b1, o1 + j * 3 + 1, none⟩ = some (.slice ra rn rc) := by rw [hB.cell (p := ⟨b1, o1 + j * 3 + 1, none⟩) hb1]; exact hx2
      have hx3' : wr.cell? ⟨b1, o1 + j * 3 + 2, none⟩ = some (.int .u64 C) := by rw [hB.cell (p := ⟨b1, o1 + j * 3 + 2, none⟩) hb1]; exact hx3
      have HGX : Hid ((⟨la, ln, lc, LL, ra, rn, rc, RR, C⟩ : Rw).Good wr) := Rw.Good.below (w := w) ⟨hsl, hsr, hC0, hC1⟩ hB (Nat.le_refl _)
      have HZ1 := Lib.hid hz1
      have HJX : Hid (j < xs.length) := by show j < _; rw [HXN.out]; exact hlt
      have hlti : (j : Int) < (n : Int) := by omega
      have HBS : Hid (w.heap.size ≤ wr.heap.size) := hB.size
      obtain ⟨ck, hck⟩ : ∃ b, chk ⟨LL, RR, C⟩ = b := ⟨_, rfl⟩
      have HCK := Lib.hid hck
      have HCW : Hid (Lit.wf (.int .u64 C) = true) := by exact WalkArith.wf_u64 (by omega)
      have hsz : (sidesC ck ⟨LL, RR, C⟩).length = 18 := sidesC_length (fun h => by rw [hck, h])
      have HI : Hid ((Try.prog.info? 66).map (·.size) = some (cellsI (sidesC ck ⟨LL, RR, C⟩)).size) := by show _ = _; rw [info_sides, cellsI_size, hsz]
      have HZ : Hid ((cellsI (List.replicate 18 0)).size = (cellsI (sidesC ck ⟨LL, RR, C⟩)).size) := by show _ = _; rw [cellsI_size, cellsI_size, hsz]; rfl
      clear hsl hsr hz1 hck hx1 hx2 hx3 hB hsz
      go_wp2_with fail
      refine (fit_is ⟨la, ln, lc, LL, ra, rn, rc, RR, C⟩ ck _ (HGX.out.alloc _) HCK.out).mono ?_
      rintro e w1 ⟨rfl, hb1w⟩
      have HB1 := Lib.hid hb1w
      clear hb1w
      cases ck
      · go_wp2_with (first
            | (refine wpList_store_g (by rfl) 66 (.tmp 6) (.tmp 23) (by rfl) w1.heap.size (cellsI (sidesC false ⟨LL, RR, C⟩)) (by rfl) (by rfl) 66 (cellsI (List.replicate 18 0)) (heap_alloc_new _ _) HI.out HZ.out (cellsI_one _) ?_
               intro w2 hw2 hgr2 hsz2
               have hb2 := below_made HB1.out hgr2
               have HF6 := Lib.hid hw2
               have HF5 : Hid (w2.heap[wr.heap.size]? = some (.cells #[.slice la ln lc, .slice ra rn rc, .int .u64 C] 41 (0, 0))) := (hb2.block _ (lt_one _ _)).trans (heap_alloc_new _ _)
               have hc5 : w2.cell? ⟨wr.heap.size, 2, none⟩ = some (.int .u64 C) := cell_of_row w2 _ 2 _ _ _ HF5.out
               have HB2 : Hid (Below wr.heap.size wr w2) := ((Below.refl _ wr).alloc (Nat.le_refl _) _).trans (hb2.mono (Nat.le_of_lt (lt_one _ _)))
               have HOW2 : Hid (w2.ownsMap Try.prog 66 (plainElem Try.prog 22) w.heap.size j D) := HOW.out.kept (below_grew HB2.out) (by simp)
               have HBW2 : Hid (Below w.heap.size w w2) := HBW.out.trans (HB2.out.mono HBS.out)
               clear hw2 hgr2 hsz2 hb2))
        go_roundw
        case rel =>
          refine ⟨j + 1, D, by omega, by go_num, HOW2.out.mono (Nat.le_succ _), ?_, HBW2.out⟩
          show Least _ _ _
          rw [take_ruls HJX.out HZ1.out]
          exact HLE.out.pass (r := ⟨LL, RR, C⟩) HCK.out
        case measure => simp [intOf]; omega
      · obtain ⟨c0, _, hat0, hwc0⟩ := HOW.out.lookup_int keyed_sides Try.underlying61 Try.underlying22 (zero_cost _) (keyOf_rule HCK.out)
        have HAT := Lib.hid hat0
        obtain ⟨hh, hhas⟩ : ∃ b, Maps.has D (keyR ⟨LL, RR, C⟩) = b := ⟨_, rfl⟩
        have HHAS := Lib.hid hhas
        clear hat0 hwc0 hhas
        cases hh
        · go_wp2_with (first
            | (refine wpList_store_g (by rfl) 66 (.tmp 6) (.tmp 23) (by rfl) w1.heap.size (cellsI (sidesC true ⟨LL, RR, C⟩)) (by rfl) (by rfl) 66 (cellsI (List.replicate 18 0)) (heap_alloc_new _ _) HI.out HZ.out (cellsI_one _) ?_
               intro w2 hw2 hgr2 hsz2
               have hb2 := below_made HB1.out hgr2
               have HF6 := Lib.hid hw2
               have HF5 : Hid (w2.heap[wr.heap.size]? = some (.cells #[.slice la ln lc, .slice ra rn rc, .int .u64 C] 41 (0, 0))) := (hb2.block _ (lt_one _ _)).trans (heap_alloc_new _ _)
               have hc5 : w2.cell? ⟨wr.heap.size, 2, none⟩ = some (.int .u64 C) := cell_of_row w2 _ 2 _ _ _ HF5.out
               have HB2 : Hid (Below wr.heap.size wr w2) := ((Below.refl _ wr).alloc (Nat.le_refl _) _).trans (hb2.mono (Nat.le_of_lt (lt_one _ _)))
               have HOW2 : Hid (w2.ownsMap Try.prog 66 (plainElem Try.prog 22) w.heap.size j D) := HOW.out.kept (below_grew HB2.out) (by simp)
               have HBW2 : Hid (Below w.heap.size w w2) := HBW.out.trans (HB2.out.mono HBS.out)
               clear hw2 hgr2 hsz2 hb2)
            | (refine wpList_load_row_w (by rfl) 66 (.tmp 6) (by rfl) w1.heap.size (by rfl) 66 (cellsI (sidesC true ⟨LL, RR, C⟩)) (0, 0) _ HF6.out Try.underlying66 (by rfl) HI.out ?_)
            | (at_lookup
               refine wpList_lookup_own_ok_int _ (by rfl) _ _ 61 (by rfl) 66 22 .u64 keyed_sides Try.underlying61 Try.underlying22 (zero_cost _) w.heap.size j D (by rfl) HOW2.out (.agg (cellsI (sidesC true ⟨LL, RR, C⟩))) (keyR ⟨LL, RR, C⟩) (by rfl) (keyOf_rule HCK.out) ?_
               intro c hat hwc
               have hce : c = c0 := by have h := hat.symm.trans HAT.out; simpa using h
               rw [HHAS.out, hce]
               clear hat hwc hce)
            | (at_mapUpdate
               refine wpList_mapUpdate_own _ (by rfl) _ _ _ 61 (by rfl) 66 22 keyed_sides Try.underlying61 (plainElem Try.prog 22) w.heap.size j D (by rfl) HOW2.out (by unfold maxLen; omega) (.agg (cellsI (sidesC true ⟨LL, RR, C⟩))) (.int .u64 C) (keyR ⟨LL, RR, C⟩) (by rfl) (by rfl) (keyOf_rule HCK.out) (.lit (.int .u64 C)) [] (plainElem_int Try.underlying22 HCW.out) ?_
               intro w3 hown3 hgr3
               have HOW3 := Lib.hid hown3
               have HBW3 : Hid (Below w.heap.size w w3) := HBW2.out.grown hgr3 HBW2.out.size (fun k hk => by cases hk; exact Nat.le_refl _)
               clear hown3 hgr3))
          go_roundw
          case rel =>
            refine ⟨j + 1, D.put (keyR ⟨LL, RR, C⟩) (.lit (.int .u64 C)), by omega, by go_num, HOW3.out, ?_, HBW3.out⟩
            show Least _ _ _
            rw [take_ruls HJX.out HZ1.out]
            exact HLE.out.put (r := ⟨LL, RR, C⟩) HCK.out (fun c h => by rw [costAt_none HHAS.out] at h; cases h) (costAt_put_same (isMap_own HOW2.out) (keyR_key HCK.out) C) (fun k hk => costAt_put_other hk C)
          case measure => simp [intOf]; omega
        · have HCA : Hid (costAt D (keyR ⟨LL, RR, C⟩) = some c0) := costAt_some HHAS.out HAT.out
          by_cases hlc : C < c0
          · go_wp2_with (first
              | (refine wpList_store_g (by rfl) 66 (.tmp 6) (.tmp 23) (by rfl) w1.heap.size (cellsI (sidesC true ⟨LL, RR, C⟩)) (by rfl) (by rfl) 66 (cellsI (List.replicate 18 0)) (heap_alloc_new _ _) HI.out HZ.out (cellsI_one _) ?_
                 intro w2 hw2 hgr2 hsz2
                 have hb2 := below_made HB1.out hgr2
                 have HF6 := Lib.hid hw2
                 have HF5 : Hid (w2.heap[wr.heap.size]? = some (.cells #[.slice la ln lc, .slice ra rn rc, .int .u64 C] 41 (0, 0))) := (hb2.block _ (lt_one _ _)).trans (heap_alloc_new _ _)
                 have hc5 : w2.cell? ⟨wr.heap.size, 2, none⟩ = some (.int .u64 C) := cell_of_row w2 _ 2 _ _ _ HF5.out
                 have HB2 : Hid (Below wr.heap.size wr w2) := ((Below.refl _ wr).alloc (Nat.le_refl _) _).trans (hb2.mono (Nat.le_of_lt (lt_one _ _)))
                 have HOW2 : Hid (w2.ownsMap Try.prog 66 (plainElem Try.prog 22) w.heap.size j D) := HOW.out.kept (below_grew HB2.out) (by simp)
                 have HBW2 : Hid (Below w.heap.size w w2) := HBW.out.trans (HB2.out.mono HBS.out)
                 clear hw2 hgr2 hsz2 hb2)
              | (refine wpList_load_row_w (by rfl) 66 (.tmp 6) (by rfl) w1.heap.size (by rfl) 66 (cellsI (sidesC true ⟨LL, RR, C⟩)) (0, 0) _ HF6.out Try.underlying66 (by rfl) HI.out ?_)
              | (at_lookup
                 refine wpList_lookup_own_ok_int _ (by rfl) _ _ 61 (by rfl) 66 22 .u64 keyed_sides Try.underlying61 Try.underlying22 (zero_cost _) w.heap.size j D (by rfl) HOW2.out (.agg (cellsI (sidesC true ⟨LL, RR, C⟩))) (keyR ⟨LL, RR, C⟩) (by rfl) (keyOf_rule HCK.out) ?_
                 intro c hat hwc
                 have hce : c = c0 := by have h := hat.symm.trans HAT.out; simpa using h
                 rw [HHAS.out, hce]
                 clear hat hwc hce)
              | (at_mapUpdate
                 refine wpList_mapUpdate_own _ (by rfl) _ _ _ 61 (by rfl) 66 22 keyed_sides Try.underlying61 (plainElem Try.prog 22) w.heap.size j D (by rfl) HOW2.out (by unfold maxLen; omega) (.agg (cellsI (sidesC true ⟨LL, RR, C⟩))) (.int .u64 C) (keyR ⟨LL, RR, C⟩) (by rfl) (by rfl) (keyOf_rule HCK.out) (.lit (.int .u64 C)) [] (plainElem_int Try.underlying22 HCW.out) ?_
                 intro w3 hown3 hgr3
                 have HOW3 := Lib.hid hown3
                 have HBW3 : Hid (Below w.heap.size w w3) := HBW2.out.grown hgr3 HBW2.out.size (fun k hk => by cases hk; exact Nat.le_refl _)
                 clear hown3 hgr3))
            go_roundw
            case rel =>
              refine ⟨j + 1, D.put (keyR ⟨LL, RR, C⟩) (.lit (.int .u64 C)), by omega, by go_num, HOW3.out, ?_, HBW3.out⟩
              show Least _ _ _
              rw [take_ruls HJX.out HZ1.out]
              exact HLE.out.put (r := ⟨LL, RR, C⟩) HCK.out (fun c h => by rw [HCA.out] at h; cases h; exact Int.le_of_lt hlc) (costAt_put_same (isMap_own HOW2.out) (keyR_key HCK.out) C) (fun k hk => costAt_put_other hk C)
            case measure => simp [intOf]; omega
          · go_wp2_with (first
              | (refine wpList_store_g (by rfl) 66 (.tmp 6) (.tmp 23) (by rfl) w1.heap.size (cellsI (sidesC true ⟨LL, RR, C⟩)) (by rfl) (by rfl) 66 (cellsI (List.replicate 18 0)) (heap_alloc_new _ _) HI.out HZ.out (cellsI_one _) ?_
                 intro w2 hw2 hgr2 hsz2
                 have hb2 := below_made HB1.out hgr2
                 have HF6 := Lib.hid hw2
                 have HF5 : Hid (w2.heap[wr.heap.size]? = some (.cells #[.slice la ln lc, .slice ra rn rc, .int .u64 C] 41 (0, 0))) := (hb2.block _ (lt_one _ _)).trans (heap_alloc_new _ _)
                 have hc5 : w2.cell? ⟨wr.heap.size, 2, none⟩ = some (.int .u64 C) := cell_of_row w2 _ 2 _ _ _ HF5.out
                 have HB2 : Hid (Below wr.heap.size wr w2) := ((Below.refl _ wr).alloc (Nat.le_refl _) _).trans (hb2.mono (Nat.le_of_lt (lt_one _ _)))
                 have HOW2 : Hid (w2.ownsMap Try.prog 66 (plainElem Try.prog 22) w.heap.size j D) := HOW.out.kept (below_grew HB2.out) (by simp)
                 have HBW2 : Hid (Below w.heap.size w w2) := HBW.out.trans (HB2.out.mono HBS.out)
                 clear hw2 hgr2 hsz2 hb2)
              | (refine wpList_load_row_w (by rfl) 66 (.tmp 6) (by rfl) w1.heap.size (by rfl) 66 (cellsI (sidesC true ⟨LL, RR, C⟩)) (0, 0) _ HF6.out Try.underlying66 (by rfl) HI.out ?_)
              | (at_lookup
                 refine wpList_lookup_own_ok_int _ (by rfl) _ _ 61 (by rfl) 66 22 .u64 keyed_sides Try.underlying61 Try.underlying22 (zero_cost _) w.heap.size j D (by rfl) HOW2.out (.agg (cellsI (sidesC true ⟨LL, RR, C⟩))) (keyR ⟨LL, RR, C⟩) (by rfl) (keyOf_rule HCK.out) ?_
                 intro c hat hwc
                 have hce : c = c0 := by have h := hat.symm.trans HAT.out; simpa using h
                 rw [HHAS.out, hce]
                 clear hat hwc hce)
              | (at_mapUpdate
                 refine wpList_mapUpdate_own _ (by rfl) _ _ _ 61 (by rfl) 66 22 keyed_sides Try.underlying61 (plainElem Try.prog 22) w.heap.size j D (by rfl) HOW2.out (by unfold maxLen; omega) (.agg (cellsI (sidesC true ⟨LL, RR, C⟩))) (.int .u64 C) (keyR ⟨LL, RR, C⟩) (by rfl) (by rfl) (keyOf_rule HCK.out) (.lit (.int .u64 C)) [] (plainElem_int Try.underlying22 HCW.out) ?_
                 intro w3 hown3 hgr3
                 have HOW3 := Lib.hid hown3
                 have HBW3 : Hid (Below w.heap.size w w3) := HBW2.out.grown hgr3 HBW2.out.size (fun k hk => by cases hk; exact Nat.le_refl _)
                 clear hown3 hgr3))
            go_roundw
            case rel =>
              refine ⟨j + 1, D, by omega, by go_num, HOW2.out.mono (Nat.le_succ _), ?_, HBW2.out⟩
              show Least _ _ _
              rw [take_ruls HJX.out HZ1.out]
              exact HLE.out.keep (r := ⟨LL, RR, C⟩) HCA.out (by show _ ≤ _; omega)
            case measure => simp [intOf]; omega
    · obtain rfl : j = n := by omega
      have hLE : Least keyR (ruls xs) (costAt D) := by
        have h := HLE.out
        rwa [List.take_of_length_le (by rw [ruls_length, HXN.out]; exact Nat.le_refl _)] at h
      have HLX := Lib.hid hLE
      obtain ⟨sd, hsd⟩ : ∃ s, Maps.size D = s := ⟨_, rfl⟩
      have hsdn : sd ≤ j := by rw [← hsd]; exact size_le HOW.out
      have HSDE := Lib.hid hsd
      obtain ⟨W, hW⟩ : ∃ W, W = wr := ⟨_, rfl⟩
      subst hW
      obtain ⟨i0, hi, hz0, hz1, hz2⟩ := info_partsR
      clear hLE hsd HLE hj hlt
      go_wp2_with (first
        | (at_len
           refine wpList_len_own _ (by rfl) _ 61 (by rfl) 66 22 Try.underlying61 (plainElem Try.prog 22) w.heap.size j D (by rfl) HOW.out ?_
           rw [HSDE.out])
        | (refine wpList_make_own W (by rfl) (.const (.int .i64 0)) (.tmp 47) 23 (by rfl) W.heap.size 41 i0 _ 3 Try.underlying23 hi hz0 hz1 .i64 .i64 (sd : Int) sd (by rfl) (by rfl) rfl (by rw [hz2]; omega) (by unfold maxLen; omega) (Nat.le_refl _) ?_
           intro w2 hown2 hgr2
           have HO2 := Lib.hid hown2
           have HOW2 : Hid (w2.ownsMap Try.prog 66 (plainElem Try.prog 22) w.heap.size j D) := HOW.out.kept hgr2 (by simp)
           have HBW2 : Hid (Below w.heap.size w w2) := HBW.out.trans ((grown_below hgr2).mono HBW.out.size)
           clear hown2 hgr2)
        | (at_range
           refine wpList_range_own _ (by rfl) _ 61 (by rfl) 66 22 keyed_sides Try.underlying61 (plainElem Try.prog 22) w.heap.size j D (by rfl) HOW2.out ?_
           intro w3 hrg3 hg3 hs3
           have hrg3' : w3.ranges Try.prog 66 (plainElem Try.prog 22) w.heap.size w2.heap.size j D (Maps.has D) sd := by rw [← HSDE.out]; exact hrg3
           have HRG3 := Lib.hid hrg3'
           have HO3 : Hid (w3.ownsRow W.heap.size 41 3 (.slice (some ⟨W.heap.size, 0, none⟩) 0 sd) 0 (rcells [])) := ownsRow_below HO2.out (grown_below hg3) (Nat.le_refl _)
           have HBW3 : Hid (Below w.heap.size w w3) := HBW2.out.trans ((grown_below hg3).mono HBW2.out.size)
           clear hrg3 hg3 hs3 hrg3'))
      go_frame
      have HGR : Hid (W.heap.size < w2.heap.size) := (owns_facts HO2.out).2.1
      have HMW : Hid (w.heap.size < W.heap.size) := HOW.out.lt
      have hmx : Try.prog.follows .mixedOrders = true := by kernel_rfl
      have HMX := Lib.hid hmx
      clear hmx
      go_loopw [10] (fun ov wr => ∃ (left : Lit → Bool) (cnt L : Nat) (outs : List Rw), ov = .slice (some ⟨W.heap.size, 0, none⟩) L sd ∧ L + cnt ≤ sd ∧ Hid (wr.ranges Try.prog 66 (plainElem Try.prog 22) w.heap.size w2.heap.size j D left cnt) ∧ Hid (Col w wr W.heap.size w2.heap.size sd L D left outs)) (fun _ wr => wr.rangeLeft w.heap.size w2.heap.size)
      case atStart => exact ⟨Maps.has D, sd, 0, [], rfl, by omega, HRG3.out, HO3.out, rfl, by simp, Got.start D, HBW3.out⟩
      case round =>
        obtain ⟨left, cnt, L, outs, rfl, hLc, HRG, HCO⟩ := hrel
        go_wp2_with (at_next; refine wpList_next_ranges _ (by rfl) _ (by rfl) 66 keyed_sides (plainElem Try.prog 22) (fun x : Array Value => Value.agg x) (Value.int .u64) sides_inv cost_inv w.heap.size w2.heap.size j D left cnt (by rfl) HRG.out ?_ ?_)
        · intro _ hl0
          have HL0 := Lib.hid hl0
          clear hl0
          obtain ⟨ho1, ho2, ho3, ho4, ho5⟩ := HCO.out
          have hof := owns_facts ho1
          have hgg : ∀ x ∈ outs, ∀ V, wr.grownBy V (some W.heap.size) → x.Good V := fun x hx V hV => (ho3 x hx).1.grown hV (ho3 x hx).2.1
          have HOF := Lib.hid hof
          have HGG := Lib.hid hgg
          have HFO : Hid (∀ x ∈ outs, x.Far (some W.heap.size) ∧ ∀ k, k < w.heap.size → x.Far (some k)) := fun x hx => ⟨(ho3 x hx).2.1, (ho3 x hx).2.2.2⟩
          have HO1 := Lib.hid ho1
          have HO2 := Lib.hid ho2
          have HO4 := Lib.hid ho4
          have HO5 := Lib.hid ho5
          have eg : ∀ args w, (callFunc 47 args).run Try.prog w = .ok (.enter 47 args) w := enters_of Try.func47 (by kernel_rfl) rfl
          have HEG := Lib.hid eg
          clear ho1 ho2 ho3 ho4 ho5 hof hgg eg
          go_wp2_with (go_at_call 46; refine (sortRules_far (B := W.heap.size) 47 cmpR (swo_farR cmpR_lt) HEG.out (fun x y V hx hy => cmpR_is x y V hx hy) outs HGG.out HO2.out (by omega) HO1.out HOF.out.2.1 HOF.out.2.2).mono ?_; rintro e w6 ⟨rfl, ys, hys, hperm, hpw, hmem, hgr6, hyo⟩)
          go_ret
          have hlS : ∀ a b : Rul, 0 ≤ cmpR b a → lessS b a = false := fun a b h => by
            have h1 : lessR b a = false := by rw [← cmpR_lt]; exact decide_eq_false (by omega)
            rw [lessR_def, Bool.or_eq_false_iff] at h1
            exact h1.1
          exact ⟨_, _, _, ys, rfl, hys, HO4.out.norm HL0.out HLX.out hperm (hpw.imp fun {a b} h => hlS a b h), by omega, (fun h => by cases h), HO5.out.grown hgr6 HO5.out.size (fun k hk => by cases hk; exact Nat.le_of_lt HMW.out), own_mono hyo (Nat.le_of_lt HMW.out), (fun x hx => (HFO.out x (hmem x hx)).1), fun k hk x hx => (HFO.out x (hmem x hx)).2 k hk⟩
        · intro x c1 kl yd yp w4 cnt4 hkey hlk hv hat hrg4 hlt4 hgr4 hsz4 hen
          have hat' : ∀ z, D.atKey kl z = .lit (.int .u64 c1) := fun z => by
            obtain ⟨c', ec, hz, _⟩ := plainElem_int_inv Try.underlying22 hv
            cases ec
            simp only [Prod.mk.injEq] at hz
            rw [hat z, hz.1]
          have hwc : (Lit.int .u64 c1).wf = true := by
            obtain ⟨c', ec, _, h⟩ := plainElem_int_inv Try.underlying22 hv
            cases ec; exact h
          obtain ⟨⟨LL, RR, C⟩, hrm, hrc, rfl, rfl, rfl, hca⟩ := HLX.out.comes hkey hat'
          obtain ⟨ho1, ho2, ho3, ho4, ho5⟩ := HCO.out
          have hcb := bounds_u64 hwc
          have hcg := chk_good hrc
          have HWL : Hid (WfI LL) := goodL_wf hcg.1
          have HWR : Hid (WfI RR) := goodL_wf hcg.2
          have HL8 : Hid (LL.length ≤ 8) := goodL_short hcg.1
          have HR8 : Hid (RR.length ≤ 8) := goodL_short hcg.2
          have HCB : Hid (0 ≤ C ∧ C < 18446744073709551616) := ⟨hcb.1, by have h2 : C ≤ 18446744073709551615 := hcb.2; show C < _; omega⟩
          have HRC := Lib.hid hrc
          have HLK := Lib.hid hlk
          have HCA := Lib.hid hca
          have HRG4 := Lib.hid hrg4
          have HLT4 := Lib.hid hlt4
          have HO1 : Hid (w4.ownsRow W.heap.size 41 3 (.slice (some ⟨W.heap.size, 0, none⟩) L sd) L (rcells outs)) := ho1.kept hgr4 (.inr (by show some W.heap.size ≠ some w2.heap.size; have := HGR.out; simp; omega))
          have HO2 := Lib.hid ho2
          have HO3 : Hid (∀ x ∈ outs, x.Good w4 ∧ x.Far (some W.heap.size) ∧ x.Far (some w2.heap.size) ∧ ∀ k, k < w.heap.size → x.Far (some k)) := fun x hx => ⟨(ho3 x hx).1.grown hgr4 (ho3 x hx).2.2.1, (ho3 x hx).2⟩
          have HO4 := Lib.hid ho4
          have HO5 : Hid (Below w.heap.size w w4) := ho5.grown hgr4 ho5.size (fun k hk => by cases hk; have := HGR.out; have := HMW.out; omega)
          have HIS : Hid ((Try.prog.info? 66).map (·.size) = some (cellsI (sidesC true ⟨LL, RR, C⟩)).size) := by show _ = _; rw [info_sides, cellsI_size, (sidesC_ok hrc).1]
          have HZS : Hid ((cellsI (List.replicate 18 0)).size = (cellsI (sidesC true ⟨LL, RR, C⟩)).size) := by show _ = _; rw [cellsI_size, cellsI_size, (sidesC_ok hrc).1]; rfl
          have H9L : Hid ((Try.prog.info? 64).map (·.size) = some (sideC true LL).length) := by show _ = _; rw [info_side, sideC_length _ _ (fun _ => HL8.out)]
          have H9R : Hid ((Try.prog.info? 64).map (·.size) = some (sideC true RR).length) := by show _ = _; rw [info_side, sideC_length _ _ (fun _ => HR8.out)]
          have hsd1 : L + 1 + cnt4 ≤ sd := by omega
          clear hkey hlk hv hat hrg4 hlt4 hgr4 hsz4 hat' hwc hrm hrc hca ho1 ho2 ho3 ho4 ho5 hcb hcg
          go_wp2_with (first
            | (refine wpList_store_g (by rfl) 66 (.tmp 11) (.tmp 54) (by rfl) w4.heap.size (cellsI (sidesC true ⟨LL, RR, C⟩)) (by rfl) (by rfl) 66 (cellsI (List.replicate 18 0)) (heap_alloc_new _ _) HIS.out HZS.out (cellsI_one _) ?_
               intro w5 hw5 hgr5 hsz5
               have HF5 := Lib.hid hw5
               have HB5 : Hid (Below w4.heap.size w4 w5) := ((Below.refl _ w4).alloc (Nat.le_refl _) _).grown hgr5 (Nat.le_of_lt (lt_one _ _)) (fun k hk => by cases hk; exact Nat.le_refl _)
               clear hw5 hgr5 hsz5)
            | fail)
          have hmx := HMX.out
          refine wp_region_any hmx ?_
          try (change wpAny _ _ _ _ _ _ _ (World.drew _))
          generalize hV : World.drew w5 = V
          have hVs : V.heap = w5.heap := by rw [← hV]; rfl
          have HVS := Lib.hid hVs
          have HLT : Hid (w4.heap.size < V.heap.size) := by show _ < _; rw [hVs]; exact (Array.getElem?_eq_some_iff.1 HF5.out).1
          have HFV : Hid (V.heap[w4.heap.size]? = some (.cells (cellsI (sidesC true ⟨LL, RR, C⟩)) 66 (0, 0))) := by show _ = _; rw [hVs]; exact HF5.out
          have HP1 : Hid (V.ownsRow W.heap.size 41 3 (.slice (some ⟨W.heap.size, 0, none⟩) L sd) L (rcells outs)) := by rw [← hV]; exact ownsRow_below HO1.out HB5.out.drew (Nat.le_refl _)
          have HP2 : Hid (∀ x ∈ outs, x.Good V ∧ x.Far (some W.heap.size) ∧ x.Far (some w2.heap.size) ∧ ∀ k, k < w.heap.size → x.Far (some k)) := fun x hx => ⟨by rw [← hV]; exact (HO3.out x hx).1.below HB5.out.drew (Nat.le_refl _), (HO3.out x hx).2⟩
          have HP3 : Hid (V.ranges Try.prog 66 (plainElem Try.prog 22) w.heap.size w2.heap.size j D (fun z => left z && !z.sameKey (keyR ⟨LL, RR, C⟩)) cnt4) := by rw [← hV]; exact HRG4.out.kept (below_grew HB5.out.drew) (by simp) (by simp)
          have HP4 : Hid (Below w.heap.size w V) := by rw [← hV]; exact (HO5.out.trans (HB5.out.mono HO5.out.size)).drew
          have HVG : Hid (W.heap.size < V.heap.size) := (owns_facts HP1.out).2.1
          have HVR : Hid (w2.heap.size < V.heap.size) := HP3.out.lt
          have HLD : Hid (∀ j v, ((sideC true LL).map (Value.int .i64))[j]? = some v → V.cell? ⟨w4.heap.size, 0 + j, none⟩ = some v) := fun j v h => by
            rw [cell_of_row V _ _ _ _ _ HFV.out, Nat.zero_add]
            exact sides_left HL8.out h
          have HRD : Hid (∀ j v, ((sideC true RR).map (Value.int .i64))[j]? = some v → V.cell? ⟨w4.heap.size, 9 + j, none⟩ = some v) := fun j v h => by
            rw [cell_of_row V _ _ _ _ _ HFV.out]
            exact sides_right HL8.out h
          clear hVs hV
          refine wpAny_take (i := 0) (v := ?v2) rfl (by kernel_rfl) (by kernel_rfl) (by kernel_rfl) (fun _ _ _ h => h) (Or.inl ⟨by rfl, ?h2⟩) ?r2
          case h2 => intro w; go_simp; try with_reducible rfl
          simp only [Act.put, List.getElem_toArray, List.getElem_cons_succ, List.getElem_cons_zero, List.setIfInBounds_toArray, List.set_cons_succ, List.set_cons_zero]
          refine wpAny_take (i := 1) (v := ?v5) rfl (by kernel_rfl) (by kernel_rfl) (by kernel_rfl) (fun _ _ _ h => h) (Or.inl ⟨by rfl, ?h5⟩) ?r5
          case h5 => intro w; go_simp; try with_reducible rfl
          simp only [Act.put, List.getElem_toArray, List.getElem_cons_succ, List.getElem_cons_zero, List.setIfInBounds_toArray, List.set_cons_succ, List.set_cons_zero]
          refine wpAny_take (i := 4) (v := ?v8) rfl (by kernel_rfl) (by kernel_rfl) (by kernel_rfl) (fun _ _ _ h => h) (Or.inl ⟨by rfl, ?h8⟩) ?r8
          case h8 => intro w; go_simp; try with_reducible rfl
          simp only [Act.put, List.getElem_toArray, List.getElem_cons_succ, List.getElem_cons_zero, List.setIfInBounds_toArray, List.set_cons_succ, List.set_cons_zero]
          refine wpAny_take (i := 7) (v := ?v11) rfl (by kernel_rfl) (by kernel_rfl) (by kernel_rfl) (fun _ _ _ h => h) (Or.inl ⟨by rfl, ?h11⟩) ?r11
          case h11 => intro w; go_simp; try with_reducible rfl
          simp only [Act.put, List.getElem_toArray, List.getElem_cons_succ, List.getElem_cons_zero, List.setIfInBounds_toArray, List.set_cons_succ, List.set_cons_zero]
          refine wpAny_ready (rs := [2, 5]) (by kernel_rfl) (by simp) ?_
          refine AllReady.cons rfl (fun K hK => ?_) (AllReady.cons rfl (fun K hK => ?_) AllReady.nil)
          · refine step_load_at (by rfl) 64 (.tmp 57) (by rfl) w4.heap.size 0 (by rfl) (sideC true LL) HLD.out _ Try.underlying64 (by rfl) H9L.out ?_
            refine hK _ _ ?_
            clear hK K
            try simp only [Act.put, List.getElem_toArray, List.getElem_cons_succ, List.getElem_cons_zero, List.setIfInBounds_toArray, List.set_cons_succ, List.set_cons_zero]
            refine wpAny_ready (rs := [3, 5]) (by kernel_rfl) (by simp) ?_
            refine AllReady.cons rfl (fun K hK => ?_) (AllReady.cons rfl (fun K hK => ?_) AllReady.nil)
            · go_simp
              refine (own_is LL V HWL.out HL8.out).mono ?_
              rintro e V1 ⟨rfl, hs1, hb1, hz1⟩
              have HS1 := Lib.hid hs1
              have HB1 := Lib.hid hb1
              have HZ1 := Lib.hid hz1
              clear hs1 hb1 hz1
              refine hK _ _ ?_
              clear hK K
              try simp only [Act.put, List.getElem_toArray, List.getElem_cons_succ, List.getElem_cons_zero, List.setIfInBounds_toArray, List.set_cons_succ, List.set_cons_zero]
              refine wpAny_ready (rs := [5]) (by kernel_rfl) (by simp) ?_
              refine AllReady.cons rfl (fun K hK => ?_) AllReady.nil
              refine step_load_at (by rfl) 64 (.tmp 60) (by rfl) w4.heap.size 9 (by rfl) (sideC true RR) (fun j v h => (HB1.out.cell (p := ⟨w4.heap.size, 9 + j, none⟩) HLT.out).trans (HRD.out j v h)) _ Try.underlying64 (by rfl) H9R.out ?_
              refine hK _ _ ?_
              clear hK K
              try simp only [Act.put, List.getElem_toArray, List.getElem_cons_succ, List.getElem_cons_zero, List.setIfInBounds_toArray, List.set_cons_succ, List.set_cons_zero]
              refine wpAny_ready (rs := [6]) (by kernel_rfl) (by simp) ?_
              refine AllReady.cons rfl (fun K hK => ?_) AllReady.nil
              go_simp
              refine (own_is RR V1 HWR.out HR8.out).mono ?_
              rintro e V2 ⟨rfl, hs2, hb2, hz2⟩
              have HS2 := Lib.hid hs2
              have HB2 := Lib.hid hb2
              have HZ2 := Lib.hid hz2
              clear hs2 hb2 hz2
              refine hK _ _ ?_
              clear hK K
              try simp only [Act.put, List.getElem_toArray, List.getElem_cons_succ, List.getElem_cons_zero, List.setIfInBounds_toArray, List.set_cons_succ, List.set_cons_zero]
              refine wpAny_ready (rs := [8]) (by kernel_rfl) (by simp) ?_
              refine AllReady.cons rfl (fun K hK => ?_) AllReady.nil
              go_simp
              refine hK _ _ ?_
              clear hK K
              try simp only [Act.put, List.getElem_toArray, List.getElem_cons_succ, List.getElem_cons_zero, List.setIfInBounds_toArray, List.set_cons_succ, List.set_cons_zero]
              refine wpAny_ready (rs := [9]) (by kernel_rfl) (by simp) ?_
              refine AllReady.cons rfl (fun K hK => ?_) AllReady.nil
              go_simp
              refine hK _ _ ?_
              clear hK K
              try simp only [Act.put, List.getElem_toArray, List.getElem_cons_succ, List.getElem_cons_zero, List.setIfInBounds_toArray, List.set_cons_succ, List.set_cons_zero]
              refine wpAny_ready (rs := [10]) (by kernel_rfl) (by simp) ?_
              refine AllReady.cons rfl (fun K hK => ?_) AllReady.nil
              have HBV : Hid (Below V.heap.size V V2) := HB1.out.trans (HB2.out.mono HB1.out.size)
              have HGN : Hid (Rw.Good V2 ⟨some ⟨V.heap.size + 1, 0, none⟩, LL.length, LL.length, LL, some ⟨V1.heap.size + 1, 0, none⟩, RR.length, RR.length, RR, C⟩) := ⟨HS1.out.below HB2.out (Nat.le_refl _), HS2.out, HCB.out⟩
              refine step_append_fit (by rfl) (.tmp 56) (.tmp 65) (by rfl) W.heap.size W.heap.size L sd outs (by rfl) ((ownsRow_below HP1.out HBV.out (Nat.le_refl _)).alloc _) ⟨V2.heap.size, 0, none⟩ 1 1 [⟨some ⟨V.heap.size + 1, 0, none⟩, LL.length, LL.length, LL, some ⟨V1.heap.size + 1, 0, none⟩, RR.length, RR.length, RR, C⟩] (by rfl) (Rs.single (HGN.out.alloc _) (RwAt.new V2 ⟨some ⟨V.heap.size + 1, 0, none⟩, LL.length, LL.length, LL, some ⟨V1.heap.size + 1, 0, none⟩, RR.length, RR.length, RR, C⟩ 41)) (by omega) (by omega) ?_
              intro w6 hown6 hgr6
              have HO6 := Lib.hid hown6
              have HG6 := Lib.hid hgr6
              clear hown6 hgr6
              refine hK _ _ ?_
              clear hK K
              try simp only [Act.put, List.getElem_toArray, List.getElem_cons_succ, List.getElem_cons_zero, List.setIfInBounds_toArray, List.set_cons_succ, List.set_cons_zero]
              refine wpAny_take (i := 11) (v := ?v74) rfl (by kernel_rfl) (by kernel_rfl) (by kernel_rfl) (fun _ _ _ h => h) (Or.inl ⟨by rfl, ?h74⟩) ?r74
              case h74 => intro w; go_simp; try with_reducible rfl
              simp only [Act.put, List.getElem_toArray, List.getElem_cons_succ, List.getElem_cons_zero, List.setIfInBounds_toArray, List.set_cons_succ, List.set_cons_zero]
              refine wpAny_done (by kernel_rfl) ?_ _
              go_wp2
              go_roundw
              case rel =>
                have hV2 : V.heap.size + 2 ≤ V1.heap.size := HZ1.out
                have hVg : W.heap.size < V.heap.size := HVG.out
                have hVr : w2.heap.size < V.heap.size := HVR.out
                have hBA : Below V.heap.size V (V2.alloc (.cells #[.slice (some ⟨V.heap.size + 1, 0, none⟩) LL.length LL.length, .slice (some ⟨V1.heap.size + 1, 0, none⟩) RR.length RR.length, .int .u64 C] 41)) := HBV.out.alloc HBV.out.size _
                refine ⟨_, cnt4, L + 1, outs ++ [⟨some ⟨V.heap.size + 1, 0, none⟩, LL.length, LL.length, LL, some ⟨V1.heap.size + 1, 0, none⟩, RR.length, RR.length, RR, C⟩], rfl, hsd1, ((HP3.out.kept (below_grew HBV.out) (by simp) (by simp)).alloc _).kept HG6.out (by have := HMW.out; simp; omega) (by have := HGR.out; simp; omega), HO6.out, by simp [HO2.out], ?_, ?_, ?_⟩
                · intro x hx
                  rcases List.mem_append.1 hx with hx | hx
                  · exact ⟨((HP2.out x hx).1.below hBA (Nat.le_refl _)).grown HG6.out (HP2.out x hx).2.1, (HP2.out x hx).2⟩
                  · rw [List.mem_singleton.1 hx]
                    have hf : ∀ k, k < V.heap.size → Rw.Far (some k) ⟨some ⟨V.heap.size + 1, 0, none⟩, LL.length, LL.length, LL, some ⟨V1.heap.size + 1, 0, none⟩, RR.length, RR.length, RR, C⟩ := fun k hk => Rw.Far.high rfl rfl (by omega) (by omega)
                    exact ⟨(HGN.out.alloc _).grown HG6.out (hf _ hVg), hf _ hVg, hf _ hVr, fun k hk => hf k (by have h8 : w.heap.size ≤ W.heap.size := Nat.le_of_lt HMW.out; omega)⟩
                · rw [ruls_app]
                  exact HO4.out.step (r := ⟨LL, RR, C⟩) HRC.out HLK.out HCA.out
                · exact (HP4.out.trans (hBA.mono (HP4.out.size))).grown HG6.out (Nat.le_trans HP4.out.size hBA.size) (fun k hk => by cases hk; exact Nat.le_of_lt HMW.out)
              case measure =>
                have hnew := ((HP3.out.kept (below_grew HBV.out) (by simp) (by simp)).alloc (.cells #[.slice (some ⟨V.heap.size + 1, 0, none⟩) LL.length LL.length, .slice (some ⟨V1.heap.size + 1, 0, none⟩) RR.length RR.length, .int .u64 C] 41)).kept HG6.out (by have := HMW.out; simp; omega) (by have := HGR.out; simp; omega)
                rw [hnew.left_eq, HRG.out.left_eq]
                exact HLT4.out
            · refine step_load_at (by rfl) 64 (.tmp 60) (by rfl) w4.heap.size 9 (by rfl) (sideC true RR) HRD.out _ Try.underlying64 (by rfl) H9R.out ?_
              refine hK _ _ ?_
              clear hK K
              try simp only [Act.put, List.getElem_toArray, List.getElem_cons_succ, List.getElem_cons_zero, List.setIfInBounds_toArray, List.set_cons_succ, List.set_cons_zero]
              refine wpAny_ready (rs := [3]) (by kernel_rfl) (by simp) ?_
              refine AllReady.cons rfl (fun K hK => ?_) AllReady.nil
              go_simp
              refine (own_is LL V HWL.out HL8.out).mono ?_
              rintro e V1 ⟨rfl, hs1, hb1, hz1⟩
              have HS1 := Lib.hid hs1
              have HB1 := Lib.hid hb1
              have HZ1 := Lib.hid hz1
              clear hs1 hb1 hz1
              refine hK _ _ ?_
              clear hK K
              try simp only [Act.put, List.getElem_toArray, List.getElem_cons_succ, List.getElem_cons_zero, List.setIfInBounds_toArray, List.set_cons_succ, List.set_cons_zero]
              refine wpAny_ready (rs := [6]) (by kernel_rfl) (by simp) ?_
              refine AllReady.cons rfl (fun K hK => ?_) AllReady.nil
              go_simp
              refine (own_is RR V1 HWR.out HR8.out).mono ?_
              rintro e V2 ⟨rfl, hs2, hb2, hz2⟩
              have HS2 := Lib.hid hs2
              have HB2 := Lib.hid hb2
              have HZ2 := Lib.hid hz2
              clear hs2 hb2 hz2
              refine hK _ _ ?_
              clear hK K
              try simp only [Act.put, List.getElem_toArray, List.getElem_cons_succ, List.getElem_cons_zero, List.setIfInBounds_toArray, List.set_cons_succ, List.set_cons_zero]
              refine wpAny_ready (rs := [8]) (by kernel_rfl) (by simp) ?_
              refine AllReady.cons rfl (fun K hK => ?_) AllReady.nil
              go_simp
              refine hK _ _ ?_
              clear hK K
              try simp only [Act.put, List.getElem_toArray, List.getElem_cons_succ, List.getElem_cons_zero, List.setIfInBounds_toArray, List.set_cons_succ, List.set_cons_zero]
              refine wpAny_ready (rs := [9]) (by kernel_rfl) (by simp) ?_
              refine AllReady.cons rfl (fun K hK => ?_) AllReady.nil
              go_simp
              refine hK _ _ ?_
              clear hK K
              try simp only [Act.put, List.getElem_toArray, List.getElem_cons_succ, List.getElem_cons_zero, List.setIfInBounds_toArray, List.set_cons_succ, List.set_cons_zero]
              refine wpAny_ready (rs := [10]) (by kernel_rfl) (by simp) ?_
              refine AllReady.cons rfl (fun K hK => ?_) AllReady.nil
              have HBV : Hid (Below V.heap.size V V2) := HB1.out.trans (HB2.out.mono HB1.out.size)
              have HGN : Hid (Rw.Good V2 ⟨some ⟨V.heap.size + 1, 0, none⟩, LL.length, LL.length, LL, some ⟨V1.heap.size + 1, 0, none⟩, RR.length, RR.length, RR, C⟩) := ⟨HS1.out.below HB2.out (Nat.le_refl _), HS2.out, HCB.out⟩
              refine step_append_fit (by rfl) (.tmp 56) (.tmp 65) (by rfl) W.heap.size W.heap.size L sd outs (by rfl) ((ownsRow_below HP1.out HBV.out (Nat.le_refl _)).alloc _) ⟨V2.heap.size, 0, none⟩ 1 1 [⟨some ⟨V.heap.size + 1, 0, none⟩, LL.length, LL.length, LL, some ⟨V1.heap.size + 1, 0, none⟩, RR.length, RR.length, RR, C⟩] (by rfl) (Rs.single (HGN.out.alloc _) (RwAt.new V2 ⟨some ⟨V.heap.size + 1, 0, none⟩, LL.length, LL.length, LL, some ⟨V1.heap.size + 1, 0, none⟩, RR.length, RR.length, RR, C⟩ 41)) (by omega) (by omega) ?_
              intro w6 hown6 hgr6
              have HO6 := Lib.hid hown6
              have HG6 := Lib.hid hgr6
              clear hown6 hgr6
              refine hK _ _ ?_
              clear hK K
              try simp only [Act.put, List.getElem_toArray, List.getElem_cons_succ, List.getElem_cons_zero, List.setIfInBounds_toArray, List.set_cons_succ, List.set_cons_zero]
              refine wpAny_take (i := 11) (v := ?v151) rfl (by kernel_rfl) (by kernel_rfl) (by kernel_rfl) (fun _ _ _ h => h) (Or.inl ⟨by rfl, ?h151⟩) ?r151
              case h151 => intro w; go_simp; try with_reducible rfl
              simp only [Act.put, List.getElem_toArray, List.getElem_cons_succ, List.getElem_cons_zero, List.setIfInBounds_toArray, List.set_cons_succ, List.set_cons_zero]
              refine wpAny_done (by kernel_rfl) ?_ _
              go_wp2
              go_roundw
              case rel =>
                have hV2 : V.heap.size + 2 ≤ V1.heap.size := HZ1.out
                have hVg : W.heap.size < V.heap.size := HVG.out
                have hVr : w2.heap.size < V.heap.size := HVR.out
                have hBA : Below V.heap.size V (V2.alloc (.cells #[.slice (some ⟨V.heap.size + 1, 0, none⟩) LL.length LL.length, .slice (some ⟨V1.heap.size + 1, 0, none⟩) RR.length RR.length, .int .u64 C] 41)) := HBV.out.alloc HBV.out.size _
                refine ⟨_, cnt4, L + 1, outs ++ [⟨some ⟨V.heap.size + 1, 0, none⟩, LL.length, LL.length, LL, some ⟨V1.heap.size + 1, 0, none⟩, RR.length, RR.length, RR, C⟩], rfl, hsd1, ((HP3.out.kept (below_grew HBV.out) (by simp) (by simp)).alloc _).kept HG6.out (by have := HMW.out; simp; omega) (by have := HGR.out; simp; omega), HO6.out, by simp [HO2.out], ?_, ?_, ?_⟩
                · intro x hx
                  rcases List.mem_append.1 hx with hx | hx
                  · exact ⟨((HP2.out x hx).1.below hBA (Nat.le_refl _)).grown HG6.out (HP2.out x hx).2.1, (HP2.out x hx).2⟩
                  · rw [List.mem_singleton.1 hx]
                    have hf : ∀ k, k < V.heap.size → Rw.Far (some k) ⟨some ⟨V.heap.size + 1, 0, none⟩, LL.length, LL.length, LL, some ⟨V1.heap.size + 1, 0, none⟩, RR.length, RR.length, RR, C⟩ := fun k hk => Rw.Far.high rfl rfl (by omega) (by omega)
                    exact ⟨(HGN.out.alloc _).grown HG6.out (hf _ hVg), hf _ hVg, hf _ hVr, fun k hk => hf k (by have h8 : w.heap.size ≤ W.heap.size := Nat.le_of_lt HMW.out; omega)⟩
                · rw [ruls_app]
                  exact HO4.out.step (r := ⟨LL, RR, C⟩) HRC.out HLK.out HCA.out
                · exact (HP4.out.trans (hBA.mono (HP4.out.size))).grown HG6.out (Nat.le_trans HP4.out.size hBA.size) (fun k hk => by cases hk; exact Nat.le_of_lt HMW.out)
              case measure =>
                have hnew := ((HP3.out.kept (below_grew HBV.out) (by simp) (by simp)).alloc (.cells #[.slice (some ⟨V.heap.size + 1, 0, none⟩) LL.length LL.length, .slice (some ⟨V1.heap.size + 1, 0, none⟩) RR.length RR.length, .int .u64 C] 41)).kept HG6.out (by have := HMW.out; simp; omega) (by have := HGR.out; simp; omega)
                rw [hnew.left_eq, HRG.out.left_eq]
                exact HLT4.out
          · refine step_load_at (by rfl) 64 (.tmp 60) (by rfl) w4.heap.size 9 (by rfl) (sideC true RR) HRD.out _ Try.underlying64 (by rfl) H9R.out ?_
            refine hK _ _ ?_
            clear hK K
            try simp only [Act.put, List.getElem_toArray, List.getElem_cons_succ, List.getElem_cons_zero, List.setIfInBounds_toArray, List.set_cons_succ, List.set_cons_zero]
            refine wpAny_ready (rs := [2]) (by kernel_rfl) (by simp) ?_
            refine AllReady.cons rfl (fun K hK => ?_) AllReady.nil
            refine step_load_at (by rfl) 64 (.tmp 57) (by rfl) w4.heap.size 0 (by rfl) (sideC true LL) HLD.out _ Try.underlying64 (by rfl) H9L.out ?_
            refine hK _ _ ?_
            clear hK K
            try simp only [Act.put, List.getElem_toArray, List.getElem_cons_succ, List.getElem_cons_zero, List.setIfInBounds_toArray, List.set_cons_succ, List.set_cons_zero]
            refine wpAny_ready (rs := [3]) (by kernel_rfl) (by simp) ?_
            refine AllReady.cons rfl (fun K hK => ?_) AllReady.nil
            go_simp
            refine (own_is LL V HWL.out HL8.out).mono ?_
            rintro e V1 ⟨rfl, hs1, hb1, hz1⟩
            have HS1 := Lib.hid hs1
            have HB1 := Lib.hid hb1
            have HZ1 := Lib.hid hz1
            clear hs1 hb1 hz1
            refine hK _ _ ?_
            clear hK K
            try simp only [Act.put, List.getElem_toArray, List.getElem_cons_succ, List.getElem_cons_zero, List.setIfInBounds_toArray, List.set_cons_succ, List.set_cons_zero]
            refine wpAny_ready (rs := [6]) (by kernel_rfl) (by simp) ?_
            refine AllReady.cons rfl (fun K hK => ?_) AllReady.nil
            go_simp
            refine (own_is RR V1 HWR.out HR8.out).mono ?_
            rintro e V2 ⟨rfl, hs2, hb2, hz2⟩
            have HS2 := Lib.hid hs2
            have HB2 := Lib.hid hb2
            have HZ2 := Lib.hid hz2
            clear hs2 hb2 hz2
            refine hK _ _ ?_
            clear hK K
            try simp only [Act.put, List.getElem_toArray, List.getElem_cons_succ, List.getElem_cons_zero, List.setIfInBounds_toArray, List.set_cons_succ, List.set_cons_zero]
            refine wpAny_ready (rs := [8]) (by kernel_rfl) (by simp) ?_
            refine AllReady.cons rfl (fun K hK => ?_) AllReady.nil
            go_simp
            refine hK _ _ ?_
            clear hK K
            try simp only [Act.put, List.getElem_toArray, List.getElem_cons_succ, List.getElem_cons_zero, List.setIfInBounds_toArray, List.set_cons_succ, List.set_cons_zero]
            refine wpAny_ready (rs := [9]) (by kernel_rfl) (by simp) ?_
            refine AllReady.cons rfl (fun K hK => ?_) AllReady.nil
            go_simp
            refine hK _ _ ?_
            clear hK K
            try simp only [Act.put, List.getElem_toArray, List.getElem_cons_succ, List.getElem_cons_zero, List.setIfInBounds_toArray, List.set_cons_succ, List.set_cons_zero]
            refine wpAny_ready (rs := [10]) (by kernel_rfl) (by simp) ?_
            refine AllReady.cons rfl (fun K hK => ?_) AllReady.nil
            have HBV : Hid (Below V.heap.size V V2) := HB1.out.trans (HB2.out.mono HB1.out.size)
            have HGN : Hid (Rw.Good V2 ⟨some ⟨V.heap.size + 1, 0, none⟩, LL.length, LL.length, LL, some ⟨V1.heap.size + 1, 0, none⟩, RR.length, RR.length, RR, C⟩) := ⟨HS1.out.below HB2.out (Nat.le_refl _), HS2.out, HCB.out⟩
            refine step_append_fit (by rfl) (.tmp 56) (.tmp 65) (by rfl) W.heap.size W.heap.size L sd outs (by rfl) ((ownsRow_below HP1.out HBV.out (Nat.le_refl _)).alloc _) ⟨V2.heap.size, 0, none⟩ 1 1 [⟨some ⟨V.heap.size + 1, 0, none⟩, LL.length, LL.length, LL, some ⟨V1.heap.size + 1, 0, none⟩, RR.length, RR.length, RR, C⟩] (by rfl) (Rs.single (HGN.out.alloc _) (RwAt.new V2 ⟨some ⟨V.heap.size + 1, 0, none⟩, LL.length, LL.length, LL, some ⟨V1.heap.size + 1, 0, none⟩, RR.length, RR.length, RR, C⟩ 41)) (by omega) (by omega) ?_
            intro w6 hown6 hgr6
            have HO6 := Lib.hid hown6
            have HG6 := Lib.hid hgr6
            clear hown6 hgr6
            refine hK _ _ ?_
            clear hK K
            try simp only [Act.put, List.getElem_toArray, List.getElem_cons_succ, List.getElem_cons_zero, List.setIfInBounds_toArray, List.set_cons_succ, List.set_cons_zero]
            refine wpAny_take (i := 11) (v := ?v234) rfl (by kernel_rfl) (by kernel_rfl) (by kernel_rfl) (fun _ _ _ h => h) (Or.inl ⟨by rfl, ?h234⟩) ?r234
            case h234 => intro w; go_simp; try with_reducible rfl
            simp only [Act.put, List.getElem_toArray, List.getElem_cons_succ, List.getElem_cons_zero, List.setIfInBounds_toArray, List.set_cons_succ, List.set_cons_zero]
            refine wpAny_done (by kernel_rfl) ?_ _
            go_wp2
            go_roundw
            case rel =>
              have hV2 : V.heap.size + 2 ≤ V1.heap.size := HZ1.out
              have hVg : W.heap.size < V.heap.size := HVG.out
              have hVr : w2.heap.size < V.heap.size := HVR.out
              have hBA : Below V.heap.size V (V2.alloc (.cells #[.slice (some ⟨V.heap.size + 1, 0, none⟩) LL.length LL.length, .slice (some ⟨V1.heap.size + 1, 0, none⟩) RR.length RR.length, .int .u64 C] 41)) := HBV.out.alloc HBV.out.size _
              refine ⟨_, cnt4, L + 1, outs ++ [⟨some ⟨V.heap.size + 1, 0, none⟩, LL.length, LL.length, LL, some ⟨V1.heap.size + 1, 0, none⟩, RR.length, RR.length, RR, C⟩], rfl, hsd1, ((HP3.out.kept (below_grew HBV.out) (by simp) (by simp)).alloc _).kept HG6.out (by have := HMW.out; simp; omega) (by have := HGR.out; simp; omega), HO6.out, by simp [HO2.out], ?_, ?_, ?_⟩
              · intro x hx
                rcases List.mem_append.1 hx with hx | hx
                · exact ⟨((HP2.out x hx).1.below hBA (Nat.le_refl _)).grown HG6.out (HP2.out x hx).2.1, (HP2.out x hx).2⟩
                · rw [List.mem_singleton.1 hx]
                  have hf : ∀ k, k < V.heap.size → Rw.Far (some k) ⟨some ⟨V.heap.size + 1, 0, none⟩, LL.length, LL.length, LL, some ⟨V1.heap.size + 1, 0, none⟩, RR.length, RR.length, RR, C⟩ := fun k hk => Rw.Far.high rfl rfl (by omega) (by omega)
                  exact ⟨(HGN.out.alloc _).grown HG6.out (hf _ hVg), hf _ hVg, hf _ hVr, fun k hk => hf k (by have h8 : w.heap.size ≤ W.heap.size := Nat.le_of_lt HMW.out; omega)⟩
              · rw [ruls_app]
                exact HO4.out.step (r := ⟨LL, RR, C⟩) HRC.out HLK.out HCA.out
              · exact (HP4.out.trans (hBA.mono (HP4.out.size))).grown HG6.out (Nat.le_trans HP4.out.size hBA.size) (fun k hk => by cases hk; exact Nat.le_of_lt HMW.out)
            case measure =>
              have hnew := ((HP3.out.kept (below_grew HBV.out) (by simp) (by simp)).alloc (.cells #[.slice (some ⟨V.heap.size + 1, 0, none⟩) LL.length LL.length, .slice (some ⟨V1.heap.size + 1, 0, none⟩) RR.length RR.length, .int .u64 C] 41)).kept HG6.out (by have := HMW.out; simp; omega) (by have := HGR.out; simp; omega)
              rw [hnew.left_eq, HRG.out.left_eq]
              exact HLT4.out

theorem norm_any (a : Option Addr) (n cap : Nat) (xs : List Rw) (w : World) (hs : Rs w a n cap xs) (hn : n ≤ 20000) :
    Calls Try.prog 33 #[.slice a n cap] w fun e w' => RulesIs w w' e (nrm (ruls xs)) n :=
  (norm_own a n cap xs w hs hn).mono fun _ _ h => h.is

end Go.Proofs.Ytpcebfefbnpbpaa
