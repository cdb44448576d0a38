/- The program's (*maker).lead of layer 10. -/
import Derived.Test.YtimjdlbhbiklgaaTrieMk
import Derived.Test.YtimjdlbhbiklgaaPackM
import Derived.BigQuiet
import Derived.Deep.RegionHeld3
namespace Go.Proofs.Ytimjdlbhbiklgaa
open Go.RowKit Go.Maps Tri

/-- the maker at mb has the states and the ways of these beginnings -/
def MkAt (w : World) (B mb mp : Nat) (U : List (List Int)) : Prop :=
  ∃ M sa N c outs D, Mk w B mb mp M sa N c outs D ∧ M ≤ N ∧ sts outs = bare U ∧ MapOk U (wayAt D) ∧ U.length = N
def more (U : List (List Int)) (q : List Int) : List (List Int) := if q ∈ U then U else U ++ [q]
set_option maxRecDepth 100000 in
theorem look_way {w : World} {mp M : Nat} {D : DataW Unit} {f s : Int} (hm : w.ownsMap Try.prog 68 (plainElem Try.prog 3) mp M D) (hf : (Lit.int .i64 f).wf = true) (hs : (Lit.int .i64 s).wf = true) :
    ∃ c : Int, (Instr.lookup 63 (.map (some mp)) (wayV f s) true).run Try.prog w = .ok (.tuple #[.int .i64 c, .bool (has D (keyW f s))]) w ∧ D.atKey (keyW f s) (.lit (.int .i64 0)) = .lit (.int .i64 c) := by
  obtain ⟨v, ps, hrun, hv⟩ := hm.look_ok keyed_way Try.underlying63 (zero_int w) (plainElem_int Try.underlying3 (by decide)) (keyOf_way f s hf hs)
  obtain ⟨c, rfl, hc, _⟩ := plainElem_int_inv Try.underlying3 hv
  simp only [Prod.mk.injEq] at hc
  exact ⟨c, hrun, hc.1⟩
set_option maxRecDepth 100000 in
theorem look_hit {w : World} {mp M : Nat} {D : DataW Unit} {f s k : Int} (hm : w.ownsMap Try.prog 68 (plainElem Try.prog 3) mp M D) (hf : (Lit.int .i64 f).wf = true) (hs : (Lit.int .i64 s).wf = true) (hk : wayAt D f s = some k) :
    (Instr.lookup 63 (.map (some mp)) (wayV f s) true).run Try.prog w = .ok (.tuple #[.int .i64 k, .bool true]) w := by
  obtain ⟨c, hrun, hat⟩ := look_way hm hf hs
  unfold wayAt at hk
  split at hk
  · rename_i h
    rw [hat] at hk
    cases hk
    rw [h.2.2] at hrun
    exact hrun
  · cases hk
set_option maxRecDepth 100000 in
theorem look_miss {w : World} {mp M : Nat} {D : DataW Unit} {f s : Int} (hm : w.ownsMap Try.prog 68 (plainElem Try.prog 3) mp M D) (hf : (Lit.int .i64 f).wf = true) (hs : (Lit.int .i64 s).wf = true) (hk : wayAt D f s = none) :
    ∃ c : Int, (Instr.lookup 63 (.map (some mp)) (wayV f s) true).run Try.prog w = .ok (.tuple #[.int .i64 c, .bool false]) w := by
  obtain ⟨c, hrun, hat⟩ := look_way hm hf hs
  cases hh : has D (keyW f s) with
  | true => rw [wayAt_some hf hs hh hat] at hk; cases hk
  | false =>
    rw [hh] at hrun
    exact ⟨c, hrun⟩

set_option maxRecDepth 100000 in
theorem ne_wa : (68 : TypeId) ≠ 59 := by decide
set_option maxRecDepth 100000 in
theorem ne_ws : (68 : TypeId) ≠ 47 := by decide
set_option maxRecDepth 100000 in
theorem ne_mi : (65 : TypeId) ≠ 3 := by decide
set_option maxRecDepth 100000 in
theorem ne_si : (47 : TypeId) ≠ 3 := by decide
set_option maxRecDepth 100000 in
theorem Mk.pushed {w w' : World} {B mb mp M N c c' k : Nat} {sa a' : Option Addr} {outs : List Sw} {D : DataW Unit} {cs : Array Value} (h : Mk w B mb mp M sa N c outs D) (hrow : w'.ownsRow B 47 2 (.slice a' (N + 1) c') (N + 1) (scells (outs ++ [Sw.no]))) (hg : w.grownBy w' (Value.slice sa N c).ownBlock)
    (ho : w.heap[k]? = some (.cells cs 68 (0, 0))) :
    Mk (w'.setCell ⟨mb, 0, none⟩ (.slice a' (N + 1) c')) B mb mp M a' (N + 1) c' (outs ++ [Sw.no]) D ∧ w'.cell? ⟨mb, 0, none⟩ = some (.slice sa N c) ∧ w'.frozen? ⟨mb, 0, none⟩ = false ∧ w'.heap[mb]? = some (.cells #[.slice sa N c, .map (some mp)] 65 (0, 0)) ∧ KeepI w w' ∧ w'.heap[k]? = some (.cells cs 68 (0, 0)) := by
  have hbox := (hg.block _ h.lt.1 (ne_own h.row h.box (fun cur => cells_ne ne_ms))).trans h.box
  refine ⟨h.state hrow hg, by rw [cell_of_obj hbox]; rfl, frozen_of_row w' mb 0 _ _ hbox, hbox, KeepI.row hg h.row (by decide), ?_⟩
  exact (hg.block _ (Array.getElem?_eq_some_iff.1 ho).1 (ne_own h.row ho (fun cur => cells_ne ne_ws))).trans ho
set_option maxRecDepth 100000 in
theorem arcsOf_le (U : List (List Int)) (p : List Int) : (arcsOf U p).length ≤ U.length := by
  unfold arcsOf
  exact Nat.le_trans (List.length_filterMap_le _ _) (by simp)
set_option maxRecDepth 100000 in
theorem lead_at {outs : List Sw} {U : List (List Int)} {f : Nat} {x : Sw} (hst : sts outs = bare U) (hlen : outs.length = U.length) (hf : f < U.length) (hx : (outs ++ [Sw.no]).getD f Sw.no = x) : x.fin = false ∧ x.arcs = arcsOf U (U.getD f []) := by
  have h1 : (outs ++ [Sw.no]).getD f Sw.no = outs.getD f Sw.no := by
    simp only [List.getD_eq_getElem?_getD]; rw [List.getElem?_append_left (by omega)]
  have h2 := sts_at outs f
  rw [hst, bare_at hf, ← h1, hx] at h2
  have h3 : x.st = ⟨x.fin, x.arcs⟩ := rfl
  rw [h3] at h2
  simp only [St.mk.injEq] at h2
  exact ⟨h2.1.symm, h2.2.symm⟩
set_option maxRecDepth 100000 in
theorem sts_set (xs : List Sw) (f : Nat) (z : Sw) : sts (xs.set f z) = (sts xs).set f z.st := by simp [sts, List.map_set]
set_option maxRecDepth 100000 in
theorem lead_end {w : World} {B mb mp M N c f xn xc a10n c10 : Nat} {sa xa a10 : Option Addr} {xf : Bool} {outs : List Sw} {D : DataW Unit} {U : List (List Int)} {s : Int} {q : List Int} {xarcs : List (Int × Int)}
    (hm : Mk w B mb mp (M + 1) sa (N + 1) c ((outs ++ [Sw.no]).set f ⟨xf, a10, a10n, c10, xarcs ++ [(s, (N : Int))]⟩) (D.put (keyW (f : Int) s) (.lit (.int .i64 (N : Int))))) (hMN : M ≤ N) (hst : sts outs = bare U) (hmo : MapOk U (wayAt D)) (hlen : U.length = N) (hf : f < U.length)
    (hfw : (Lit.int .i64 (f : Int)).wf = true) (hs : (Lit.int .i64 s).wf = true) (hq : q = U.getD f [] ++ [s]) (hn : U.Nodup) (hl : ∀ u ∈ U, u.length ≤ q.length) (hin : q ∉ U) (hD : IsMap D) (_hx : (outs ++ [Sw.no]).getD f Sw.no = ⟨xf, xa, xn, xc, xarcs⟩)
    (hxa : (⟨xf, xa, xn, xc, xarcs⟩ : Sw).fin = false ∧ (⟨xf, xa, xn, xc, xarcs⟩ : Sw).arcs = arcsOf U (U.getD f [])) :
    MkAt w B mb mp (more U q) ∧ N < (more U q).length ∧ (more U q).getD N [] = q := by
  have hmo' : more U q = U ++ [q] := by unfold more; rw [if_neg hin]
  have hxf : xf = false := hxa.1
  have hxs : xarcs = arcsOf U (U.getD f []) := hxa.2
  subst hlen
  rw [hmo']
  refine ⟨⟨M + 1, sa, U.length + 1, c, _, _, hm, by omega, ?_, ?_, by simp⟩, by simp, getD_app_e U q⟩
  · rw [sts_set, sts_app, hst, bare_more hn hf hq hl]
    have hl' : f < (bare U).length := by rw [bare_length]; exact hf
    rw [List.set_append_left _ _ hl', hxf, hxs]
    rfl
  · exact mapOk_put hmo hn hf hq hl hin (wayAt_put_same hD hfw hs _) (fun f' s' hne => wayAt_put_other hfw hs hne _)
set_option maxRecDepth 100000 in
theorem look_miss_all {w : World} {mp M : Nat} {D : DataW Unit} {f s : Int} (hm : w.ownsMap Try.prog 68 (plainElem Try.prog 3) mp M D) (hf : (Lit.int .i64 f).wf = true) (hs : (Lit.int .i64 s).wf = true) (hk : wayAt D f s = none) :
    ∃ c : Int, ∀ n, (Instr.lookup 63 (.map (some mp)) (wayV f s) true).run Try.prog (w.drewN n) = .ok (.tuple #[.int .i64 c, .bool false]) (w.drewN n) := by
  have hh : has D (keyW f s) = false := by
    obtain ⟨c, _, hat⟩ := look_way hm hf hs
    cases hh : has D (keyW f s) with
    | true => rw [wayAt_some hf hs hh hat] at hk; cases hk
    | false => rfl
  obtain ⟨c, _, hat⟩ := look_way hm hf hs
  refine ⟨c, fun n => ?_⟩
  obtain ⟨c', hrun, hat'⟩ := look_way (w := w.drewN n) hm hf hs
  have : c' = c := by rw [hat] at hat'; simpa using hat'.symm
  rw [this, hh] at hrun
  exact hrun
set_option maxRecDepth 100000 in
theorem step_put {w : World} {ops : Array Oper} {o : Oper} {act : Act} {K : Act → World → Prop} {Q : Exit → Act → World → Prop} {E : Prop} (hw : Region.wanted o (yielded ops act.tmps) = true) (m x v : Operand) (hop : o.op = .mapUpdate 63 m x v)
    (mp M : Nat) (D : DataW Unit) (hm : act.eval m = .map (some mp)) (hown : w.ownsMap Try.prog 68 (plainElem Try.prog 3) mp M D) (hM : M < maxLen) (f s t : Int) (hx : act.eval x = wayV f s) (hv : act.eval v = .int .i64 t)
    (hf : (Lit.int .i64 f).wf = true) (hs : (Lit.int .i64 s).wf = true) (ht : (Lit.int .i64 t).wf = true)
    (h : ∀ w', w'.ownsMap Try.prog 68 (plainElem Try.prog 3) mp (M + 1) (D.put (keyW f s) (.lit (.int .i64 t))) → w.grownBy w' (some mp) → K (act.put o.dst undef) w') :
    if Region.wanted o (yielded ops act.tmps) = true then o.wp Try.prog act w K Q else E := by
  rw [if_pos hw]
  obtain ⟨w', hrun, r1, r2⟩ := hown.update keyed_way Try.underlying63 hM (keyOf_way f s hf hs) (plainElem_int Try.underlying3 ht)
  unfold Oper.wp
  simp [execOp, hop, hm, hx, hv, hrun, Result.andThen]
  exact h w' r1 r2
set_option maxRecDepth 100000 in
theorem step_append_arc_at {w : World} {ops : Array Oper} {o : Oper} {act : Act} {K : Act → World → Prop} {Q : Exit → Act → World → Prop} {E : Prop} (hw : Region.wanted o (yielded ops act.tmps) = true) (s x : Operand)
    (ho : o.op = .call { callee := .builtin .append, args := #[s, x], argTypes := #[45, 45] }) (base : Nat) (v : Value) (n : Nat) (l : List (Int × Int)) (hs : act.eval s = v)
    (hown : w.ownsRow base 59 2 v n (acells l)) (g : Nat) (y : Int × Int) (hx : act.eval x = .slice (some ⟨g, 0, none⟩) 1 1) (h0 : w.cell? ⟨g, 0, none⟩ = some (.int .i64 y.1)) (h1 : w.cell? ⟨g, 1, none⟩ = some (.int .i64 y.2))
    (N : Nat) (hN : n + 1 = N) (h63 : N * 16 ≤ 140737488355328) (hbase : base ≤ w.heap.size)
    (h : ∀ a' c' w', w'.ownsRow base 59 2 (.slice a' N c') N (acells (l ++ [y])) → w.grownBy w' v.ownBlock → ((Value.slice a' N c').ownBlock = v.ownBlock ∨ (Value.slice a' N c').ownBlock = some w.heap.size) → K (act.put o.dst (.slice a' N c')) w') :
    if Region.wanted o (yielded ops act.tmps) = true then o.wp Try.prog act w K Q else E := by
  subst hN
  rw [if_pos hw]
  obtain ⟨i0, hi, hz0, hz1, hz2⟩ := info_parts info_arc
  obtain ⟨v', w', hr, r1, r2, _, r4⟩ := run_append_own_at (P := Try.prog) w base 45 o.type 59 i0 _ 2 16 Try.underlying45 hi hz0 hz1 hz2 rfl (by omega) v n (acells l) hown ⟨g, 0, none⟩ 1 1 (acells [y]) rfl (two_cells h0 h1) (acells_one [y]) (by unfold maxLen; omega) (by omega) hbase
  obtain ⟨a', c', rfl, _⟩ := own_form r1
  unfold Oper.wp execOp
  simp only [ho, resolve, invoke, builtin, Sem.run_bind, Sem.run_pure, Result.andThen_ok, List.map_toArray, List.map_cons, List.map_nil, hs, hx, hr]
  exact h a' c' w' (by rw [acells_app]; exact r1) r2 r4

set_option maxHeartbeats 12800000 in
set_option maxRecDepth 100000 in
theorem lead_is (B mb mp f : Nat) (U : List (List Int)) (s : Int) (q : List Int) (w : World) (hm : MkAt w B mb mp U) (hB : B ≤ w.heap.size) (hN : U.length ≤ 6001) (hf : f < U.length) (hs : (Lit.int .i64 s).wf = true) (hq : q = U.getD f [] ++ [s]) (hn : U.Nodup) (hl : ∀ u ∈ U, u.length ≤ q.length) :
    Calls Try.prog 41 #[.pointer (some ⟨mb, 0, none⟩), .agg #[.int .i64 (f : Int), .int .i64 s]] w fun e w' => ∃ k : Nat, e = .returned (.int .i64 (k : Int)) ∧ MkAt w' B mb mp (more U q) ∧ k < (more U q).length ∧ (more U q).getD k [] = q ∧ Below B w w' ∧ KeepI w w' := by
  obtain ⟨M, sa, N, c, outs, D, hmk, hMN, hst, hmo, hlen⟩ := hm
  have hfw : (Lit.int .i64 (f : Int)).wf = true := by apply WalkArith.wf_i64; omega
  have HM := Lib.hid hmk
  have HMO := Lib.hid hmo
  have HST := Lib.hid hst
  have HLEN := Lib.hid hlen
  have HFW := Lib.hid hfw
  have HSW := Lib.hid hs
  have HQ := Lib.hid hq
  have HND := Lib.hid hn
  have HUL := Lib.hid hl
  have HFU := Lib.hid hf
  have hf' : f < N := by omega
  have hN' : N ≤ 6001 := by omega
  have hB0 : ∀ o, Hid (Below B w (w.alloc o)) := fun o => (Below.refl B w).alloc hB o
  have hmbA : ∀ o, (w.alloc o).cell? ⟨mb, 1, none⟩ = some (.map (some mp)) := fun o => by
    rw [cell_of_obj ((hmk.alloc o).box)]; rfl
  by_cases hin : q ∈ U
  · obtain ⟨k, hk, hkq⟩ := mem_getD hin
    have hway : wayAt D (f : Int) s = some (k : Int) := (hmo _ _ _).2 ⟨f, k, hf, hk, rfl, rfl, by rw [hkq, hq]⟩
    have hlk : ∀ o n, (Instr.lookup 63 (.map (some mp)) (.agg #[.int .i64 (f : Int), .int .i64 s]) true).run Try.prog ((w.alloc o).drewN n) = .ok (.tuple #[.int .i64 (k : Int), .bool true]) ((w.alloc o).drewN n) := fun o n => look_hit ((hmk.alloc o).drewN n).map hfw hs hway
    have HIN := Lib.hid hin
    have HKQ := Lib.hid hkq
    have HK := Lib.hid hk
    clear hmk hmo hst hlen hfw hs hq hn hl hin hkq hway hf hk hN hB
    go_enter Try.func41, Try.ntmps41
    go_wp2
    go_quiet (fail)
    go_wp2
    go_ret
    have hmo' : more U q = U := by unfold more; rw [if_pos HIN.out]
    refine ⟨k, rfl, ?_, by rw [hmo']; exact HK.out, by rw [hmo']; exact HKQ.out, below_drewN (hB0 _).out _, ?_⟩
    · rw [hmo']
      exact ⟨M, sa, N, c, outs, D, (HM.out.alloc _).drewN _, hMN, HST.out, HMO.out, HLEN.out⟩
    · exact (KeepI.none (World.grownBy_alloc w _ none)).trans (fun _ _ _ _ => rfl)
  · -- MISS
    have hway : wayAt D (f : Int) s = none := by
      cases hc : wayAt D (f : Int) s with
      | none => rfl
      | some t =>
        obtain ⟨i, k, hi, hk, h1, h2, h3⟩ := (hmo _ _ _).1 hc
        have : i = f := by omega
        subst this
        exact absurd (by rw [hq, ← h3]; exact getD_mem hk) hin
    have hlk : ∀ o, ∃ c0 : Int, ∀ n, (Instr.lookup 63 (.map (some mp)) (.agg #[.int .i64 (f : Int), .int .i64 s]) true).run Try.prog ((w.alloc o).drewN n) = .ok (.tuple #[.int .i64 c0, .bool false]) ((w.alloc o).drewN n) := fun o => look_miss_all ((hmk.alloc o)).map hfw hs hway
    obtain ⟨c0, hlk⟩ := hlk (.cells #[.int .i64 (f : Int), .int .i64 s] 68 (0, 0))
    have hmb0 : ∀ o n, ((w.alloc o).drewN n).cell? ⟨mb, 0, none⟩ = some (.slice sa N c) := fun o n => by
      rw [cell_of_obj (((hmk.alloc o).drewN n).box)]; rfl
    have HIN := Lib.hid hin
    have HNW : Hid ((Lit.int .i64 (N : Int)).wf = true) := by apply WalkArith.wf_i64; omega
    have HBS : Hid (B ≤ w.heap.size) := hB
    have hmx : Try.prog.follows .mixedOrders = true := by kernel_rfl
    clear hmk hmo hst hlen hfw hs hq hn hl hin hway hf hN hB
    go_enter Try.func41, Try.ntmps41
    go_wp2
    go_quiet (fail)
    go_wp2_with fail
    generalize hW5 : World.drewN (w.alloc _) _ = w5
    have HM5 : Hid (Mk w5.drew B mb mp M sa N c outs D) := by rw [← hW5]; exact ((HM.out.alloc _).drewN _).drew
    have HB5 : Hid (Below B w w5.drew) := by rw [← hW5]; exact below_drawn (below_drewN (hB0 _).out _) ⟨1, rfl⟩
    have HK5 : Hid (KeepI w w5.drew) := by rw [← hW5]; exact (KeepI.none (World.grownBy_alloc w _ none)).trans (fun _ _ _ _ => rfl)
    have HW5 : Hid (w5.drew.cell? ⟨w.heap.size, 0, none⟩ = some (.int .i64 (f : Int)) ∧ w5.drew.cell? ⟨w.heap.size, 1, none⟩ = some (.int .i64 s)) := by rw [← hW5]; exact lit2 w _ _ _ _
    have HO5 : Hid (w5.drew.heap[w.heap.size]? = some (.cells #[.int .i64 (f : Int), .int .i64 s] 68 (0, 0))) := by rw [← hW5]; exact heap_alloc_new w _
    have HS5 : Hid (w5.drew.cell? ⟨mb, 1, none⟩ = some (.map (some mp)) ∧ w5.drew.cell? ⟨w.heap.size, 0, none⟩ = some (.int .i64 (f : Int)) ∧ w5.drew.cell? ⟨w.heap.size, 1, none⟩ = some (.int .i64 s)) := ⟨by rw [cell_of_obj HM5.out.box]; rfl, HW5.out⟩
    clear hW5 hlk hmb0 hmbA
    refine wp_region_held_drew (S := (fun W => W.cell? ⟨mb, 1, none⟩ = some (.map (some mp)) ∧ W.cell? ⟨w.heap.size, 0, none⟩ = some (.int .i64 (f : Int)) ∧ W.cell? ⟨w.heap.size, 1, none⟩ = some (.int .i64 s))) (by kernel_rfl) (by first | ((first | exact hS6 | exact HS5.out)) | ((try dsimp only); (first | exact hS6 | exact HS5.out))) (fun hHeld => ?_)
    refine wpAnyH_take (i := 0) (v := ?vla1) rfl (by kernel_rfl) (by kernel_rfl) (by kernel_rfl) (fun _ _ _ h => h) (Or.inl ⟨by rfl, ?hla1⟩) (by assumption) ?rla1
    case hla1 => intro w hSw; (try dsimp only at hSw); go_simp; try with_reducible rfl
    simp only [Act.put, List.getElem_toArray, List.getElem_cons_zero, List.setIfInBounds_toArray, List.set_cons_succ, List.set_cons_zero]
    refine wpAnyH_take (i := 1) (v := ?vla4) rfl (by kernel_rfl) (by kernel_rfl) (by kernel_rfl) (fun _ _ _ h => h) (Or.inl ⟨by rfl, ?hla4⟩) (by assumption) ?rla4
    case hla4 => intro w hSw; (try dsimp only at hSw); go_simp; try with_reducible rfl
    simp only [Act.put, List.getElem_toArray, List.getElem_cons_succ, List.getElem_cons_zero, List.setIfInBounds_toArray, List.set_cons_succ, List.set_cons_zero]
    refine wpAnyH_take (i := 2) (v := ?vla7) rfl (by kernel_rfl) (by kernel_rfl) (by kernel_rfl) (fun _ _ _ h => h) (Or.inl ⟨by rfl, ?hla7⟩) (by assumption) ?rla7
    case hla7 => intro w hSw; (try dsimp only at hSw); go_simp; try with_reducible rfl
    simp only [Act.put, List.getElem_toArray, List.getElem_cons_succ, List.getElem_cons_zero, List.setIfInBounds_toArray, List.set_cons_succ, List.set_cons_zero]
    refine wpAnyH_take (i := 3) (v := ?vla10) rfl (by kernel_rfl) (by kernel_rfl) (by kernel_rfl) (fun _ _ _ h => h) (Or.inl ⟨by rfl, ?hla10⟩) (by assumption) ?rla10
    case hla10 => intro w hSw; (try dsimp only at hSw); go_simp; try with_reducible rfl
    simp only [Act.put, List.getElem_toArray, List.getElem_cons_succ, List.getElem_cons_zero, List.setIfInBounds_toArray, List.set_cons_succ, List.set_cons_zero]
    refine wpAnyH_take (i := 4) (v := ?vla13) rfl (by kernel_rfl) (by kernel_rfl) (by kernel_rfl) (fun _ _ _ h => h) (Or.inl ⟨by rfl, ?hla13⟩) (by assumption) ?rla13
    case hla13 => intro w hSw; (try dsimp only at hSw); go_simp; try with_reducible rfl
    simp only [Act.put, List.getElem_toArray, List.getElem_cons_succ, List.getElem_cons_zero, List.setIfInBounds_toArray, List.set_cons_succ, List.set_cons_zero]
    refine wpAnyH_take (i := 5) (v := ?vla16) rfl (by kernel_rfl) (by kernel_rfl) (by kernel_rfl) (fun _ _ _ h => h) (Or.inl ⟨by rfl, ?hla16⟩) (by assumption) ?rla16
    case hla16 => intro w hSw; (try dsimp only at hSw); go_simp; try with_reducible rfl
    simp only [Act.put, List.getElem_toArray, List.getElem_cons_succ, List.getElem_cons_zero, List.setIfInBounds_toArray, List.set_cons_succ, List.set_cons_zero]
    refine wpAnyH_ready (rs := [6]) (by kernel_rfl) (by simp) ?_
    refine AllReadyH.cons rfl (fun K hK => ?_) AllReadyH.nil
    refine step_put (by rfl) (.tmp 28) (.tmp 29) (.tmp 30) (by rfl) mp M D (by rfl) HM5.out.map (by unfold maxLen; omega) (f : Int) s (N : Int) (by rfl) (by rfl) HFW.out HSW.out HNW.out ?_
    intro w6 hown6 hg6
    have hm6 := HM5.out.put hown6 hg6
    have hk6 := KeepI.grown hg6 (fun k e => by cases e; obtain ⟨es, clock, hb⟩ := HM5.out.mapObj; exact ⟨_, hb, by simp⟩)
    have hb6 : Below B w w6 := HB5.out.grown hg6 (Nat.le_trans HBS.out HB5.out.size) (fun k e => by cases e; exact HM5.out.base.2)
    have hw0 : w6.cell? ⟨w.heap.size, 0, none⟩ = some (.int .i64 (f : Int)) := hg6.cell HW5.out.1 (fun e => by have h1 := HM.out.lt.2; have h2 : w.heap.size = mp := Option.some.inj e; omega)
    have hw1 : w6.cell? ⟨w.heap.size, 1, none⟩ = some (.int .i64 s) := hg6.cell HW5.out.2 (fun e => by have h1 := HM.out.lt.2; have h2 : w.heap.size = mp := Option.some.inj e; omega)
    have ho6 : w6.heap[w.heap.size]? = some (.cells #[.int .i64 (f : Int), .int .i64 s] 68 (0, 0)) := (hg6.block _ (Array.getElem?_eq_some_iff.1 HO5.out).1 (fun e => by have h1 := HM.out.lt.2; have h2 : w.heap.size = mp := Option.some.inj e; omega)).trans HO5.out
    have hS6 : w6.cell? ⟨mb, 1, none⟩ = some (.map (some mp)) ∧ w6.cell? ⟨w.heap.size, 0, none⟩ = some (.int .i64 (f : Int)) ∧ w6.cell? ⟨w.heap.size, 1, none⟩ = some (.int .i64 s) := ⟨by rw [cell_of_obj hm6.box]; rfl, hw0, hw1⟩
    refine hK.out _ _ (by (try dsimp only); (first | exact hS6 | exact HS5.out)) (fun hHeld => ?_)
    clear hK K
    try simp only [Act.put, List.getElem_toArray, List.getElem_cons_succ, List.getElem_cons_zero]
    refine wpAnyH_done (by kernel_rfl) ?_ _
    have HM6 := Lib.hid hm6
    have HK6 : Hid (KeepI w w6) := HK5.out.trans hk6
    have HB6 := Lib.hid hb6
    have HW6 : Hid (w6.cell? ⟨w.heap.size, 0, none⟩ = some (.int .i64 (f : Int)) ∧ w6.cell? ⟨w.heap.size, 1, none⟩ = some (.int .i64 s)) := ⟨hw0, hw1⟩
    have hmb6 : w6.cell? ⟨mb, 0, none⟩ = some (.slice sa N c) := by rw [cell_of_obj HM6.out.box]; rfl
    have HO6 := Lib.hid ho6
    clear hown6 hg6 hm6 hk6 hb6 hw0 hw1 hS6 hHeld ho6
    have HIS : Hid (IsMap D) := HM.out.map.isMap
    have h63 : (N + 1) * 32 ≤ 140737488355328 := by omega
    have hbs6 : ∀ o, B ≤ (w6.alloc o).heap.size := fun o => by rw [World.size_alloc]; have h1 := HB6.out.size; have h2 := HBS.out; omega
    have HOA : ∀ o, Hid ((w6.alloc o).heap[w.heap.size]? = some (.cells #[.int .i64 (f : Int), .int .i64 s] 68 (0, 0))) := fun o => ((World.grownBy_alloc w6 o none).block w.heap.size (Array.getElem?_eq_some_iff.1 HO6.out).1 (by simp)).trans HO6.out
    have HKA : ∀ o, Hid (KeepI w (w6.alloc o) ∧ Below B w (w6.alloc o)) := fun o => ⟨HK6.out.trans (KeepI.none (World.grownBy_alloc w6 o none)), HB6.out.alloc (Nat.le_trans HBS.out HB6.out.size) o⟩
    go_wp2_with (first
      | (at_builtin
         refine append_state (by rfl) (.tmp 35) (.tmp 37) (by rfl) B (.slice sa N c) N outs (by rfl) (HM6.out.alloc _).row w6.heap.size Sw.no (by rfl) (lit2 _ _ _ _ _).1 (lit2 _ _ _ _ _).2 (N + 1) rfl h63 (hbs6 _) ?_
         intro a7 c7 w7 hown7 hb7 hg7 hnil7
         obtain ⟨hm7, hc7, hf7, hx7, hk7, ho7⟩ := Mk.pushed (HM6.out.alloc _) hown7 hg7 (HOA _).out
         have HM7 := Lib.hid hm7
         have HX7 := Lib.hid hx7
         have HO7 := Lib.hid ho7
         have HK7 := Lib.hid ((HKA _).out.1.trans hk7)
         have HB7 := Lib.hid ((HKA _).out.2.trans hb7)
         clear hown7 hb7 hg7 hnil7 hm7 hx7 hk7 ho7))
    generalize hW8 : World.setCell w7 _ _ = w8
    have HM8 : Hid (Mk w8 B mb mp (M + 1) a7 (N + 1) c7 (outs ++ [Sw.no]) (D.put (keyW (f : Int) s) (.lit (.int .i64 (N : Int))))) := by rw [← hW8]; exact HM7.out
    have HB8 : Hid (Below B w w8) := by rw [← hW8]; exact Below.setCell (p := ⟨mb, 0, none⟩) HB7.out HM.out.base.1 _
    have HK8 : Hid (KeepI w w8) := by rw [← hW8]; exact HK7.out.trans (KeepI.grown (grown_set w7 _ _) (fun k e => by cases e; exact ⟨_, HX7.out, fun cur fr => cells_ne ne_mi⟩))
    have HO8 : Hid (w8.heap[w.heap.size]? = some (.cells #[.int .i64 (f : Int), .int .i64 s] 68 (0, 0))) := by
      rw [← hW8]; exact ((grown_set w7 ⟨mb, 0, none⟩ _).block _ (Array.getElem?_eq_some_iff.1 HO7.out).1 (fun e => by have h1 := HM.out.lt.1; have h2 : w.heap.size = mb := Option.some.inj e; omega)).trans HO7.out
    clear hW8 hc7 hf7
    obtain ⟨sb, rfl⟩ := own_head HM8.out.row (Nat.succ_pos N)
    have hmb8 : w8.cell? ⟨mb, 0, none⟩ = some (.slice (some ⟨sb, 0, none⟩) (N + 1) c7) := by rw [cell_of_obj HM8.out.box]; rfl
    have hw8 : w8.cell? ⟨w.heap.size, 0, none⟩ = some (.int .i64 (f : Int)) := by rw [cell_of_obj HO8.out]; rfl
    have hfi : (f : Int) < (N : Int) + 1 := by omega
    have hf0 : (0 : Int) ≤ (f : Int) := by omega
    go_quiet (fail)
    go_wp2_with fail
    generalize hW9 : World.drewN w8 _ = w9
    obtain ⟨x, hx⟩ : ∃ x, (outs ++ [Sw.no]).getD f Sw.no = x := ⟨_, rfl⟩
    obtain ⟨xf, xa, xn, xc, xarcs⟩ := x
    have HM9 : Hid (Mk w9 B mb mp (M + 1) (some ⟨sb, 0, none⟩) (N + 1) c7 (outs ++ [Sw.no]) (D.put (keyW (f : Int) s) (.lit (.int .i64 (N : Int))))) := by rw [← hW9]; exact HM8.out.drewN _
    have HXX := Lib.hid hx
    have HXM : Hid ((⟨xf, xa, xn, xc, xarcs⟩ : Sw) ∈ outs ++ [Sw.no]) := by show _ ∈ _; rw [← hx]; exact mem_getD_sw (by have := HM9.out.len; omega)
    have HB9 : Hid (Below B w w9.drew) := by rw [← hW9]; exact below_drawn (below_drewN HB8.out _) ⟨1, rfl⟩
    have HK9 : Hid (KeepI w w9.drew) := by rw [← hW9]; exact HK8.out.trans (fun _ _ _ _ => rfl)
    have HO9 : Hid (w9.drew.heap[w.heap.size]? = some (.cells #[.int .i64 (f : Int), .int .i64 s] 68 (0, 0))) := by rw [← hW9]; exact HO8.out
    have HW9 : Hid (w9.drew.cell? ⟨w.heap.size, 0, none⟩ = some (.int .i64 (f : Int)) ∧ w9.drew.cell? ⟨w.heap.size, 1, none⟩ = some (.int .i64 s)) := ⟨by rw [cell_of_obj HO9.out]; rfl, by rw [cell_of_obj HO9.out]; rfl⟩
    have hx9 : w9.drew.cell? ⟨sb, f * 2 + 1, none⟩ = some (.slice xa xn xc) := by rw [HM9.out.drew.row.cellAt (f * 2 + 1) (by omega), (scells_get (by have := HM9.out.len; omega)).2, HXX.out]; rfl
    have HBS9 : Hid (B ≤ w9.drew.heap.size) := Nat.le_trans HBS.out HB9.out.size
    have hxa := lead_at HST.out (by rw [HLEN.out]; have := HM9.out.len; simpa using this) HFU.out hx
    have HXA := Lib.hid hxa
    have hxn : xn ≤ 6001 := by
      have h1 := (HM9.out.arcs _ HXM.out).1
      rw [acells_length] at h1
      have h2 : xarcs.length = xn := by have h3 : xarcs.length * 2 = xn * 2 := h1; omega
      have h4 := arcsOf_le U (U.getD f [])
      rw [← hxa.2] at h4
      have h5 : xarcs.length ≤ U.length := h4
      have h6 := HLEN.out
      omega
    have HMX : Hid (Try.prog.follows .mixedOrders = true) := hmx
    clear hW9 hmb8 hw8 hx hxa
    refine wp_region_held_drew (S := (fun W => W.cell? ⟨w.heap.size, 1, none⟩ = some (.int .i64 s))) (by kernel_rfl) (by first | ((first | exact hw10 | exact hwB1 | exact HW9.out.2 | exact hset10)) | ((try dsimp only); (first | exact hw10 | exact hwB1 | exact HW9.out.2 | exact hset10))) (fun hHeld => ?_)
    refine wpAnyH_take (i := 0) (v := ?vlb1) rfl (by kernel_rfl) (by kernel_rfl) (by kernel_rfl) (fun _ _ _ h => h) (Or.inl ⟨by rfl, ?hlb1⟩) (by assumption) ?rlb1
    case hlb1 => intro w hSw; (try dsimp only at hSw); go_simp; try with_reducible rfl
    simp only [Act.put, List.getElem_toArray, List.getElem_cons_zero, List.setIfInBounds_toArray, List.set_cons_succ, List.set_cons_zero]
    refine wpAnyH_take (i := 1) (v := ?vlb4) rfl (by kernel_rfl) (by kernel_rfl) (by kernel_rfl) (fun _ _ _ h => h) (Or.inl ⟨by rfl, ?hlb4⟩) (by assumption) ?rlb4
    case hlb4 => intro w hSw; (try dsimp only at hSw); go_simp; try with_reducible rfl
    simp only [Act.put, List.getElem_toArray, List.getElem_cons_succ, List.getElem_cons_zero, List.setIfInBounds_toArray, List.set_cons_succ, List.set_cons_zero]
    refine wpAnyH_take (i := 2) (v := ?vlb7) rfl (by kernel_rfl) (by kernel_rfl) (by kernel_rfl) (fun _ _ _ h => h) (Or.inl ⟨by rfl, ?hlb7⟩) (by assumption) ?rlb7
    case hlb7 => intro w hSw; (try dsimp only at hSw); go_simp; try with_reducible rfl
    simp only [Act.put, List.getElem_toArray, List.getElem_cons_succ, List.getElem_cons_zero, List.setIfInBounds_toArray, List.set_cons_succ, List.set_cons_zero]
    refine wpAnyH_take (i := 3) (v := ?vlb10) rfl (by kernel_rfl) (by kernel_rfl) (by kernel_rfl) (fun _ _ _ h => h) (Or.inl ⟨by rfl, ?hlb10⟩) (by assumption) ?rlb10
    case hlb10 => intro w hSw; (try dsimp only at hSw); go_simp; try with_reducible rfl
    simp only [Act.put, List.getElem_toArray, List.getElem_cons_succ, List.getElem_cons_zero, List.setIfInBounds_toArray, List.set_cons_succ, List.set_cons_zero]
    refine wpAnyH_take (i := 5) (v := ?vlb13) rfl (by kernel_rfl) (by kernel_rfl) (by kernel_rfl) (fun _ _ _ h => h) (Or.inl ⟨by rfl, ?hlb13⟩) (by assumption) ?rlb13
    case hlb13 => intro w hSw; (try dsimp only at hSw); go_simp; try with_reducible rfl
    simp only [Act.put, List.getElem_toArray, List.getElem_cons_succ, List.getElem_cons_zero, List.setIfInBounds_toArray, List.set_cons_succ, List.set_cons_zero]
    refine wpAnyH_take (i := 6) (v := ?vlb16) rfl (by kernel_rfl) (by kernel_rfl) (by kernel_rfl) (fun _ _ _ h => h) (Or.inl ⟨by rfl, ?hlb16⟩) (by assumption) ?rlb16
    case hlb16 => intro w hSw; (try dsimp only at hSw); go_simp; try with_reducible rfl
    simp only [Act.put, List.getElem_toArray, List.getElem_cons_succ, List.getElem_cons_zero, List.setIfInBounds_toArray, List.set_cons_succ, List.set_cons_zero]
    refine wpAnyH_take (i := 7) (v := ?vlb19) rfl (by kernel_rfl) (by kernel_rfl) (by kernel_rfl) (fun _ _ _ h => h) (Or.inl ⟨by rfl, ?hlb19⟩) (by assumption) ?rlb19
    case hlb19 => intro w hSw; (try dsimp only at hSw); go_simp; try with_reducible rfl
    simp only [Act.put, List.getElem_toArray, List.getElem_cons_succ, List.getElem_cons_zero, List.setIfInBounds_toArray, List.set_cons_succ, List.set_cons_zero]
    refine wpAnyH_take (i := 8) (v := ?vlb22) rfl (by kernel_rfl) (by kernel_rfl) (by kernel_rfl) (fun _ _ _ h => h) (Or.inl ⟨by rfl, ?hlb22⟩) (by assumption) ?rlb22
    case hlb22 => intro w hSw; (try dsimp only at hSw); go_simp; try with_reducible rfl
    simp only [Act.put, List.getElem_toArray, List.getElem_cons_succ, List.getElem_cons_zero, List.setIfInBounds_toArray, List.set_cons_succ, List.set_cons_zero]
    refine wpAnyH_ready (rs := [4, 9]) (by kernel_rfl) (by simp) ?_
    refine AllReadyH.cons rfl (fun K hK => ?_) (AllReadyH.cons rfl (fun K hK => ?_) AllReadyH.nil)
    · go_simp
      refine hK.out _ _ (by (try dsimp only); (first | exact hw10 | exact hwB1 | exact HW9.out.2 | exact hset10)) (fun hHeld => ?_)
      clear hK K
      try simp only [Act.put, List.getElem_toArray, List.getElem_cons_succ, List.getElem_cons_zero, List.setIfInBounds_toArray, List.set_cons_succ, List.set_cons_zero]
      refine wpAnyH_ready (rs := [9]) (by kernel_rfl) (by simp) ?_
      refine AllReadyH.cons rfl (fun K hK => ?_) AllReadyH.nil
      refine step_build_arc (by rfl) (.tmp 56) s (N : Int) (by rfl) (by rfl) ?_
      intro gB wB hgB0 hgB1 hbB
      have hgB : w9.drew.grownBy wB none := ⟨hbB.os, hbB.tape, hbB.output, hbB.size, fun k hk _ => hbB.block k hk⟩
      have hwB1 : wB.cell? ⟨w.heap.size, 1, none⟩ = some (.int .i64 s) := hgB.cell HW9.out.2 (by simp)
      have hxB : wB.cell? ⟨sb, f * 2 + 1, none⟩ = some (.slice xa xn xc) := hgB.cell hx9 (by simp)
      refine hK.out _ _ (by (try dsimp only); (first | exact hw10 | exact hwB1 | exact HW9.out.2 | exact hset10)) (fun hHeld => ?_)
      clear hK K
      try simp only [Act.put, List.getElem_toArray, List.getElem_cons_succ, List.getElem_cons_zero, List.setIfInBounds_toArray, List.set_cons_succ, List.set_cons_zero]
      refine wpAnyH_ready (rs := [10]) (by kernel_rfl) (by simp) ?_
      refine AllReadyH.cons rfl (fun K hK => ?_) AllReadyH.nil
      refine step_append_arc_at (by rfl) (.tmp 52) (.tmp 57) (by rfl) B (.slice xa xn xc) xn xarcs (by rfl) (((HM9.out.drew.grow hgB).arcs _ HXM.out)) gB (s, (N : Int)) (by rfl) hgB0 hgB1 (xn + 1) rfl (by omega) (Nat.le_trans HBS9.out hbB.size) ?_
      intro a10 c10 w10 hown10 hg10 hat10
      have hm10 := (HM9.out.drew.grow hgB).arc (f := f) (y := (s, (N : Int))) (by omega) HXX.out hown10 hg10 (hat10.elim .inl (fun h => .inr ⟨_, h, Nat.le_refl _⟩)) ⟨HSW.out, HNW.out⟩
      have hk10 : KeepI w w10 := HK9.out.trans ((KeepI.none hgB).trans (KeepI.row hg10 ((HM9.out.drew.grow hgB).arcs _ HXM.out) (by decide)))
      have hb10 : Below B w w10 := (HB9.out.trans (hbB.mono HBS9.out)).grown hg10 (Nat.le_trans HBS9.out hbB.size) (fun k e => (((HM9.out.drew.grow hgB).arcs _ HXM.out).lt k e).1)
      have hrow10 : w10.ownsRow B 47 2 (.slice (some ⟨sb, 0, none⟩) (N + 1) c7) (N + 1) (scells (outs ++ [Sw.no])) := (HM9.out.drew.grow hgB).row.kept hg10 (own_apart2 (HM9.out.drew.grow hgB).row ((HM9.out.drew.grow hgB).arcs _ HXM.out) ne_sa)
      have hc10 : w10.cell? ⟨sb, f * 2 + 1, none⟩ = some (.slice xa xn xc) := by rw [hrow10.cellAt (f * 2 + 1) (by omega), (scells_get (by rw [HM9.out.len]; omega)).2, HXX.out]; rfl
      have hf10 : w10.frozen? ⟨sb, f * 2 + 1, none⟩ = false := hrow10.frozenAt _
      have hoB : wB.heap[w.heap.size]? = some (.cells #[.int .i64 (f : Int), .int .i64 s] 68 (0, 0)) := (hgB.block _ (Array.getElem?_eq_some_iff.1 HO9.out).1 (by simp)).trans HO9.out
      have hw10 : w10.cell? ⟨w.heap.size, 1, none⟩ = some (.int .i64 s) := hg10.cell hwB1 (ne_own ((HM9.out.drew.grow hgB).arcs _ HXM.out) hoB (fun cur => cells_ne ne_wa))
      have ho10 : w10.heap[w.heap.size]? = some (.cells #[.int .i64 (f : Int), .int .i64 s] 68 (0, 0)) := (hg10.block _ (Array.getElem?_eq_some_iff.1 hoB).1 (ne_own ((HM9.out.drew.grow hgB).arcs _ HXM.out) hoB (fun cur => cells_ne ne_wa))).trans hoB
      have hset10 : (w10.setCell ⟨sb, f * 2 + 1, none⟩ (.slice a10 (xn + 1) c10)).cell? ⟨w.heap.size, 1, none⟩ = some (.int .i64 s) := (grown_set w10 _ _).cell hw10 (ne_own hrow10 ho10 (fun cur => cells_ne ne_ws))
      refine hK.out _ _ (by (try dsimp only); (first | exact hw10 | exact hwB1 | exact HW9.out.2 | exact hset10)) (fun hHeld => ?_)
      clear hK K
      try simp only [Act.put, List.getElem_toArray, List.getElem_cons_succ, List.getElem_cons_zero, List.setIfInBounds_toArray, List.set_cons_succ, List.set_cons_zero]
      refine wpAnyH_take (i := 11) (v := ?vlb58) rfl (by kernel_rfl) (by kernel_rfl) (by kernel_rfl) (fun _ _ _ h => h) (Or.inl ⟨by rfl, ?hlb58⟩) (by assumption) ?rlb58
      case hlb58 => intro w hSw; (try dsimp only at hSw); go_simp; try with_reducible rfl
      simp only [Act.put, List.getElem_toArray, List.getElem_cons_succ, List.getElem_cons_zero, List.setIfInBounds_toArray, List.set_cons_succ, List.set_cons_zero]
      refine wpAnyH_take (i := 12) (v := ?vlb61) rfl (by kernel_rfl) (by kernel_rfl) (by kernel_rfl) (fun _ _ _ h => h) (Or.inl ⟨by rfl, ?hlb61⟩) (by assumption) ?rlb61
      case hlb61 => intro w hSw; (try dsimp only at hSw); go_simp; try with_reducible rfl
      simp only [Act.put, List.getElem_toArray, List.getElem_cons_succ, List.getElem_cons_zero, List.setIfInBounds_toArray, List.set_cons_succ, List.set_cons_zero]
      refine wpAnyH_ready (rs := [13]) (by kernel_rfl) (by simp) ?_
      refine AllReadyH.cons rfl (fun K hK => ?_) AllReadyH.nil
      go_simp
      refine hK.out _ _ (by (try dsimp only); (first | exact hw10 | exact hwB1 | exact HW9.out.2 | exact hset10)) (fun hHeld => ?_)
      clear hK K
      try simp only [Act.put, List.getElem_toArray, List.getElem_cons_succ, List.getElem_cons_zero, List.setIfInBounds_toArray, List.set_cons_succ, List.set_cons_zero]
      refine wpAnyH_done (by kernel_rfl) ?_ _
      have HM10 := Lib.hid hm10
      have HK10 := Lib.hid hk10
      have HB10 := Lib.hid hb10
      have HSO10 := Lib.hid (own_obj hrow10 (g := sb) rfl)
      have HSB10 := Lib.hid ((hrow10.lt sb rfl).1)
      clear hset10 ho10 hoB hm10 hk10 hb10 hrow10 hc10 hf10 hw10 hown10 hg10 hat10 hgB hwB1 hxB hgB0 hgB1 hbB hHeld hx9
      go_wp2
      go_ret
      obtain ⟨e1, e2, e3⟩ := lead_end HM10.out hMN HST.out HMO.out HLEN.out HFU.out HFW.out HSW.out HQ.out HND.out HUL.out HIN.out HIS.out HXX.out HXA.out
      exact ⟨N, rfl, e1, e2, e3, Below.setCell (p := ⟨sb, f * 2 + 1, none⟩) HB10.out HSB10.out _, HK10.out.trans (KeepI.grown (grown_set w10 ⟨sb, f * 2 + 1, none⟩ _) (fun k e => by cases e; obtain ⟨cur, hc⟩ := HSO10.out; exact ⟨_, hc, fun cur fr => cells_ne ne_si⟩))⟩
    · refine step_build_arc (by rfl) (.tmp 56) s (N : Int) (by rfl) (by rfl) ?_
      intro gB wB hgB0 hgB1 hbB
      have hgB : w9.drew.grownBy wB none := ⟨hbB.os, hbB.tape, hbB.output, hbB.size, fun k hk _ => hbB.block k hk⟩
      have hwB1 : wB.cell? ⟨w.heap.size, 1, none⟩ = some (.int .i64 s) := hgB.cell HW9.out.2 (by simp)
      have hxB : wB.cell? ⟨sb, f * 2 + 1, none⟩ = some (.slice xa xn xc) := hgB.cell hx9 (by simp)
      refine hK.out _ _ (by (try dsimp only); (first | exact hw10 | exact hwB1 | exact HW9.out.2 | exact hset10)) (fun hHeld => ?_)
      clear hK K
      try simp only [Act.put, List.getElem_toArray, List.getElem_cons_succ, List.getElem_cons_zero, List.setIfInBounds_toArray, List.set_cons_succ, List.set_cons_zero]
      refine wpAnyH_ready (rs := [4]) (by kernel_rfl) (by simp) ?_
      refine AllReadyH.cons rfl (fun K hK => ?_) AllReadyH.nil
      go_simp
      refine hK.out _ _ (by (try dsimp only); (first | exact hw10 | exact hwB1 | exact HW9.out.2 | exact hset10)) (fun hHeld => ?_)
      clear hK K
      try simp only [Act.put, List.getElem_toArray, List.getElem_cons_succ, List.getElem_cons_zero, List.setIfInBounds_toArray, List.set_cons_succ, List.set_cons_zero]
      refine wpAnyH_ready (rs := [10]) (by kernel_rfl) (by simp) ?_
      refine AllReadyH.cons rfl (fun K hK => ?_) AllReadyH.nil
      refine step_append_arc_at (by rfl) (.tmp 52) (.tmp 57) (by rfl) B (.slice xa xn xc) xn xarcs (by rfl) (((HM9.out.drew.grow hgB).arcs _ HXM.out)) gB (s, (N : Int)) (by rfl) hgB0 hgB1 (xn + 1) rfl (by omega) (Nat.le_trans HBS9.out hbB.size) ?_
      intro a10 c10 w10 hown10 hg10 hat10
      have hm10 := (HM9.out.drew.grow hgB).arc (f := f) (y := (s, (N : Int))) (by omega) HXX.out hown10 hg10 (hat10.elim .inl (fun h => .inr ⟨_, h, Nat.le_refl _⟩)) ⟨HSW.out, HNW.out⟩
      have hk10 : KeepI w w10 := HK9.out.trans ((KeepI.none hgB).trans (KeepI.row hg10 ((HM9.out.drew.grow hgB).arcs _ HXM.out) (by decide)))
      have hb10 : Below B w w10 := (HB9.out.trans (hbB.mono HBS9.out)).grown hg10 (Nat.le_trans HBS9.out hbB.size) (fun k e => (((HM9.out.drew.grow hgB).arcs _ HXM.out).lt k e).1)
      have hrow10 : w10.ownsRow B 47 2 (.slice (some ⟨sb, 0, none⟩) (N + 1) c7) (N + 1) (scells (outs ++ [Sw.no])) := (HM9.out.drew.grow hgB).row.kept hg10 (own_apart2 (HM9.out.drew.grow hgB).row ((HM9.out.drew.grow hgB).arcs _ HXM.out) ne_sa)
      have hc10 : w10.cell? ⟨sb, f * 2 + 1, none⟩ = some (.slice xa xn xc) := by rw [hrow10.cellAt (f * 2 + 1) (by omega), (scells_get (by rw [HM9.out.len]; omega)).2, HXX.out]; rfl
      have hf10 : w10.frozen? ⟨sb, f * 2 + 1, none⟩ = false := hrow10.frozenAt _
      have hoB : wB.heap[w.heap.size]? = some (.cells #[.int .i64 (f : Int), .int .i64 s] 68 (0, 0)) := (hgB.block _ (Array.getElem?_eq_some_iff.1 HO9.out).1 (by simp)).trans HO9.out
      have hw10 : w10.cell? ⟨w.heap.size, 1, none⟩ = some (.int .i64 s) := hg10.cell hwB1 (ne_own ((HM9.out.drew.grow hgB).arcs _ HXM.out) hoB (fun cur => cells_ne ne_wa))
      have ho10 : w10.heap[w.heap.size]? = some (.cells #[.int .i64 (f : Int), .int .i64 s] 68 (0, 0)) := (hg10.block _ (Array.getElem?_eq_some_iff.1 hoB).1 (ne_own ((HM9.out.drew.grow hgB).arcs _ HXM.out) hoB (fun cur => cells_ne ne_wa))).trans hoB
      have hset10 : (w10.setCell ⟨sb, f * 2 + 1, none⟩ (.slice a10 (xn + 1) c10)).cell? ⟨w.heap.size, 1, none⟩ = some (.int .i64 s) := (grown_set w10 _ _).cell hw10 (ne_own hrow10 ho10 (fun cur => cells_ne ne_ws))
      refine hK.out _ _ (by (try dsimp only); (first | exact hw10 | exact hwB1 | exact HW9.out.2 | exact hset10)) (fun hHeld => ?_)
      clear hK K
      try simp only [Act.put, List.getElem_toArray, List.getElem_cons_succ, List.getElem_cons_zero, List.setIfInBounds_toArray, List.set_cons_succ, List.set_cons_zero]
      refine wpAnyH_take (i := 11) (v := ?vlb112) rfl (by kernel_rfl) (by kernel_rfl) (by kernel_rfl) (fun _ _ _ h => h) (Or.inl ⟨by rfl, ?hlb112⟩) (by assumption) ?rlb112
      case hlb112 => intro w hSw; (try dsimp only at hSw); go_simp; try with_reducible rfl
      simp only [Act.put, List.getElem_toArray, List.getElem_cons_succ, List.getElem_cons_zero, List.setIfInBounds_toArray, List.set_cons_succ, List.set_cons_zero]
      refine wpAnyH_take (i := 12) (v := ?vlb115) rfl (by kernel_rfl) (by kernel_rfl) (by kernel_rfl) (fun _ _ _ h => h) (Or.inl ⟨by rfl, ?hlb115⟩) (by assumption) ?rlb115
      case hlb115 => intro w hSw; (try dsimp only at hSw); go_simp; try with_reducible rfl
      simp only [Act.put, List.getElem_toArray, List.getElem_cons_succ, List.getElem_cons_zero, List.setIfInBounds_toArray, List.set_cons_succ, List.set_cons_zero]
      refine wpAnyH_ready (rs := [13]) (by kernel_rfl) (by simp) ?_
      refine AllReadyH.cons rfl (fun K hK => ?_) AllReadyH.nil
      go_simp
      refine hK.out _ _ (by (try dsimp only); (first | exact hw10 | exact hwB1 | exact HW9.out.2 | exact hset10)) (fun hHeld => ?_)
      clear hK K
      try simp only [Act.put, List.getElem_toArray, List.getElem_cons_succ, List.getElem_cons_zero, List.setIfInBounds_toArray, List.set_cons_succ, List.set_cons_zero]
      refine wpAnyH_done (by kernel_rfl) ?_ _
      have HM10 := Lib.hid hm10
      have HK10 := Lib.hid hk10
      have HB10 := Lib.hid hb10
      have HSO10 := Lib.hid (own_obj hrow10 (g := sb) rfl)
      have HSB10 := Lib.hid ((hrow10.lt sb rfl).1)
      clear hset10 ho10 hoB hm10 hk10 hb10 hrow10 hc10 hf10 hw10 hown10 hg10 hat10 hgB hwB1 hxB hgB0 hgB1 hbB hHeld hx9
      go_wp2
      go_ret
      obtain ⟨e1, e2, e3⟩ := lead_end HM10.out hMN HST.out HMO.out HLEN.out HFU.out HFW.out HSW.out HQ.out HND.out HUL.out HIN.out HIS.out HXX.out HXA.out
      exact ⟨N, rfl, e1, e2, e3, Below.setCell (p := ⟨sb, f * 2 + 1, none⟩) HB10.out HSB10.out _, HK10.out.trans (KeepI.grown (grown_set w10 ⟨sb, f * 2 + 1, none⟩ _) (fun k e => by cases e; obtain ⟨cur, hc⟩ := HSO10.out; exact ⟨_, hc, fun cur fr => cells_ne ne_si⟩))⟩


end Go.Proofs.Ytimjdlbhbiklgaa
