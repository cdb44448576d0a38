import Derived.Test.YtjmabjeaodojeaaGreatSpecSteps
import Derived.Test.YtjmabjeaodojeaaGreatSpecTellA
import Derived.Test.YtjmabjeaodojeaaGreatSpecRefB
import Derived.StillTailTactics
/- Used by the law. -/
namespace Go.Proofs.YtjmabjeaodojeaaGreat
open Go.RowKit

def TellIs (w w' : World) (e : Ending) (base : List Int) (rs : List Rul) (ok : Bool) (F : Nat → Prop) : Prop :=
  ∃ ba bn bc ra rn rc xs, e = .returned (.tuple #[.agg #[.slice ba bn bc, .slice ra rn rc], .bool ok]) ∧ Sl .u64 w' ba bn bc base ∧ (ba = none → bc = 0) ∧ Rs w' ra rn rc xs ∧ ruls xs = rs ∧ (ra = none → rc = 0) ∧ Below w.heap.size w w' ∧ w'.ownsRow w.heap.size 39 3 (.slice ra rn rc) rn (rcells xs) ∧ (∀ x ∈ xs, x.Far (Value.slice ra rn rc).ownBlock) ∧ ∀ k, k < w.heap.size → F k → ∀ x ∈ xs, x.Far (some k)
theorem TellIs.weak {w w' : World} {e : Ending} {base : List Int} {rs : List Rul} {ok : Bool} {F F' : Nat → Prop} (h : TellIs w w' e base rs ok F) (hF : ∀ k, F' k → F k) : TellIs w w' e base rs ok F' := by
  obtain ⟨ba, bn, bc, ra, rn, rc, xs, h1, h2, h3, h4, h5, h6, h7, h8, h9, h10⟩ := h
  exact ⟨ba, bn, bc, ra, rn, rc, xs, h1, h2, h3, h4, h5, h6, h7, h8, h9, fun k hk hf => h10 k hk (hF k hf)⟩
set_option maxRecDepth 100000 in
theorem own_kept {w w' : World} {B n c k : Nat} {a : Option Addr} {xs : List Value} {cs : Array Value} {fr : Nat × Nat} (h : w.ownsRow B 39 3 (.slice a n c) n xs) (hg : w.grownBy w' (some k)) (h0 : w.heap[k]? = some (.cells cs 44 fr)) : w'.ownsRow B 39 3 (.slice a n c) n xs := by
  refine h.kept hg ?_
  cases a with
  | none => exact .inl rfl
  | some p =>
    refine .inr fun e => ?_
    obtain rfl : p.block = k := Option.some.inj e
    rcases h.2 with h2 | ⟨g, cap, cur, hv, _, hh, _⟩
    · cases h2.1
    · simp only [Value.slice.injEq, Option.some.injEq] at hv
      obtain ⟨rfl, _, _⟩ := hv
      rw [hh] at h0
      simp only [Option.some.injEq, Obj.cells.injEq] at h0
      exact absurd h0.2.1 (by decide)

theorem steps_store_g {P : Program} {ops : Array Oper} {Q : Exit → Act → World → Prop} {o : Oper} {a : Act} {w : World} {R : Value → World → Prop} (hgd : o.guard = none) (ty : TypeId) (x y : Operand) (ho : o.op = .store ty x y)
    {g : Nat} {cells : Array Value} (hx : a.eval x = .pointer (some ⟨g, 0, none⟩)) (hy : a.eval y = .agg cells)
    {t : TypeId} {old : Array Value} (hg : w.heap[g]? = some (.cells old t (0, 0))) (hi : (P.info? ty).map (·.size) = some cells.size)
    (hold : old.size = cells.size) (h1 : cells.all (·.oneCell') = true)
    (h : ∀ w', w'.heap[g]? = some (.cells cells t (0, 0)) → w.grownBy w' (some g) → w'.heap.size = w.heap.size → R undef w') : StepsTo P ops Q o a w R := by
  intro K hK
  rw [if_pos (by simp [Region.wanted, hgd])]
  exact wp_store_row ty x y ho g cells hx hy t old hg hi hold h1 (hK _ _ (h _ (setRow_heap _ _ _ _ _ _ hg) ⟨rfl, rfl, rfl, by simp, fun k _ hk => setRow_other _ _ _ _ (fun e => hk (by rw [e]))⟩ (size_setRow _ _ _)))

set_option maxRecDepth 100000 in
set_option maxHeartbeats 800000 in
theorem tellBase_is (sa : Option Addr) (sn sc : Nat) (ca : Option Addr) (cn cc : Nat) (cs : List Int) (w : World) (hc : Sl .u64 w ca cn cc cs) (hcn : ca = none → cc = 0) :
    Calls Tryz.prog 61 #[.slice sa sn sc, .slice ca cn cc] w fun e w' => TellIs w w' e cs [] true (fun _ => True) := by
  have HC := Lib.hid hc
  have HN := Lib.hid hcn
  have HI : Hid ((Tryz.prog.info? 44).map (·.size) = some 2) := info_spec
  have HNW : Hid (∀ o, (w.alloc o).heap[w.heap.size]? = some o) := fun o => heap_alloc_new w o
  have HB : Hid (∀ o, Below w.heap.size w (w.alloc o)) := fun o => (Below.refl _ w).alloc (Nat.le_refl _) o
  clear hc hcn
  go_enter Tryz.func61, Tryz.ntmps61
  go_wp2_with (refine wpList_store_g (by rfl) 44 (.tmp 4) (.tmp 7) (by rfl) w.heap.size #[.slice ca cn cc, .slice none 0 0] (by rfl) (by rfl) 44 #[.slice none 0 0, .slice none 0 0] (HNW.out _) HI.out rfl (spec_cells _ _ _ _ _ _) ?_
               intro w5 hw5 hgr5 hsz5
               have HW5 := Lib.hid hw5
               have HB5 : Hid (Below w.heap.size w w5) := (HB.out _).grown hgr5 (HB.out _).size (fun k hk => by cases hk; exact Nat.le_refl _)
               clear hw5 hgr5 hsz5)
  refine bodyPost_ret (results_cell_row_tmp rfl _ _ w.heap.size 44 #[.slice ca cn cc, .slice none 0 0] (0, 0) _ (by rfl) HW5.out Tryz.underlying44 (by rfl) HI.out) rfl ?_
  exact ⟨ca, cn, cc, none, 0, 0, [], rfl, HC.out.below HB5.out (Nat.le_refl _), HN.out, Rs.nil, rfl, fun _ => rfl, HB5.out, owns_nil_rules _ _, (fun x hx => absurd hx List.not_mem_nil), fun _ _ _ x hx => absurd hx List.not_mem_nil⟩

set_option maxRecDepth 100000 in
theorem fieldSide_at (a : Option Addr) (n cap : Nat) (l : List Int) (w : World) (hs : Sl .i64 w a n cap l) :
    ∃ a' n' c', Sl .i64 w a' n' c' (Spec.fside l) ∧ (∀ w1, w.grownBy w1 none → Calls Tryz.prog 93 #[.slice a n cap] w1 fun e w' => e = .returned (.slice a' n' c') ∧ w1 = w') ∧ ∀ k, Slf k a n → Slf k a' n' := by
  obtain ⟨q, hq⟩ : ∃ q, decide (l = [95]) = q := ⟨_, rfl⟩
  have key : ∀ w1, w.grownBy w1 none → Calls Tryz.prog 93 #[.slice a n cap] w1 fun e w' => e = .returned (if q = true then .slice none 0 0 else .slice a n cap) ∧ w1 = w' := by
    intro w1 hg
    have HS : Hid (Sl .i64 w1 a n cap l) := hs.grown hg (Slf.none' hs)
    have HQ := Lib.hid hq
    clear hs hq hg
    go_enter Tryz.func93, Tryz.ntmps93
    go_wp2_with fail
    refine (stands_is a n cap l q w1 HS.out HQ.out).mono ?_
    rintro e w2 ⟨rfl, rfl⟩
    cases q
    · go_wp2
      go_ret
      exact ⟨rfl, rfl⟩
    · go_wp2
      go_ret
      exact ⟨rfl, rfl⟩
  cases q with
  | true => exact ⟨none, 0, 0, by unfold Spec.fside; rw [if_pos (of_decide_eq_true hq)]; exact Sl.nil, key, fun _ _ => .inl rfl⟩
  | false => exact ⟨a, n, cap, by unfold Spec.fside; rw [if_neg (of_decide_eq_false hq)]; exact hs, key, fun _ h => h⟩

theorem grown_below' {w w' : World} (h : w.grownBy w' none) : Below w.heap.size w w' := ⟨h.os, h.tape, h.output, h.size, fun k hk => h.block k hk (by simp)⟩
theorem rr_kept {W0 w0 w' : World} {g g1 : Nat} {cs cs1 : Array Value} {t : TypeId} {v : Value} (h2 : W0.heap.size ≤ g) (h3 : w0.heap[g]? = some (.cells cs t (0, 0))) (h4 : cs.size = 3) (_r2 : W0.heap.size ≤ g1) (r3 : w0.grownBy w' (some g1)) (r4 : w'.heap[g1]? = some (.cells cs1 t (0, 0))) (r5 : cs1.size = 3)
    (h1 : v = .pointer (some ⟨g, 0, none⟩)) : ∃ g cs, v = .pointer (some ⟨g, 0, none⟩) ∧ W0.heap.size ≤ g ∧ w'.heap[g]? = some (.cells cs t (0, 0)) ∧ cs.size = 3 := by
  by_cases he : g = g1
  · subst he; exact ⟨g, cs1, h1, h2, r4, r5⟩
  · exact ⟨g, cs, h1, h2, (r3.block g (Array.getElem?_eq_some_iff.1 h3).1 (fun e => he (by cases e; rfl))).trans h3, h4⟩
theorem rr_fresh {W0 w0 w' : World} {p : Nat → Prop} {q : Array Value → Nat → Prop} (h1 : W0.drew.grownBy w0 none) (h2 : ∃ g cs, p g ∧ W0.heap.size ≤ g ∧ w0.grownBy w' (some g) ∧ q cs g ∧ cs.size = 3) : W0.drew.grownBy w' none := by
  obtain ⟨g, cs, _, hg, hr, _, _⟩ := h2
  exact ⟨hr.os.trans h1.os, hr.tape.trans h1.tape, hr.output.trans h1.output, Nat.le_trans h1.size hr.size, fun k hk _ => (hr.block k (Nat.lt_of_lt_of_le hk h1.size) (fun e => by cases e; exact absurd hk (by show ¬ g < W0.heap.size; omega))).trans (h1.block k hk (by simp))⟩

set_option maxHeartbeats 3200000 in
set_option maxRecDepth 100000 in
theorem tellReplaced_is (sa : Option Addr) (sc : Nat) (xs : List Wd) (ca : Option Addr) (cn cc : Nat) (cs : List Int) (rs : List Rul) (w : World) (hs : Ws w sa 2 sc xs) (hc : Sl .u64 w ca cn cc cs) (h1 : 0 < cn)
    (hr : [⟨Spec.fside ((nums xs).getD 0 []), Spec.fside ((nums xs).getD 1 []), cs.getD 0 0⟩] = rs) :
    Calls Tryz.prog 62 #[.slice sa 2 sc, .slice ca cn cc] w fun e w' => TellIs w w' e [] rs true (fun k => ∀ z ∈ xs, Slf (some k) z.a z.n) := by
  obtain ⟨b1, o1, la, ln, lc, L, rfl, hb1, hq1, hx1, hL, hn1⟩ := hs.one 0 (by omega)
  obtain ⟨b1', o1', ra, rn, rc, R, heq, _, hq2, hx2, hR, hn2⟩ := hs.one 1 (by omega)
  simp only [Option.some.injEq, Addr.mk.injEq, and_true] at heq
  obtain ⟨rfl, rfl⟩ := heq
  obtain ⟨b2, o2, rfl, hb2, hcc⟩ := hc.at h1
  have hx3 := hcc 0 h1
  obtain ⟨C, hC⟩ : ∃ C, cs.getD 0 0 = C := ⟨_, rfl⟩
  have hCw : 0 ≤ C ∧ C < 18446744073709551616 := by
    have hm : C ∈ cs := by rw [← hC, List.getD_eq_getElem?_getD, List.getElem?_eq_getElem (by rw [hc.1]; exact h1), Option.getD_some]; exact List.getElem_mem _
    have := hc.2.2.2.1 C hm
    have := bounds_u64 this; omega
  rw [hn1, hn2, hC] at hr
  rw [hC] at hx3
  obtain ⟨fa, fn, fc, HFs, HFk, HFf⟩ := fieldSide_at la ln lc L w hL
  obtain ⟨ga, gn, gc, HGs, HGk, HGf⟩ := fieldSide_at ra rn rc R w hR
  have hmem : ∀ i, i < 2 → xs.getD i Wd.no ∈ xs := fun i hi => by rw [List.getD_eq_getElem?_getD, List.getElem?_eq_getElem (by rw [hs.1]; exact hi), Option.getD_some]; exact List.getElem_mem _
  have HFF : Hid (∀ k, (∀ z ∈ xs, Slf (some k) z.a z.n) → Slf (some k) fa fn ∧ Slf (some k) ga gn) := fun k h => ⟨HFf _ (by have := h _ (hmem 0 (by omega)); rw [hq1] at this; exact this), HGf _ (by have := h _ (hmem 1 (by omega)); rw [hq2] at this; exact this)⟩
  have HFS := Lib.hid HFs
  have HGS := Lib.hid HGs
  have HR := Lib.hid hr
  have HCW := Lib.hid hCw
  have hmx : Tryz.prog.follows .mixedOrders = true := by kernel_rfl
  have HMX := Lib.hid hmx
  have HI : Hid ((Tryz.prog.info? 44).map (·.size) = some 2) := info_spec
  have HIR : Hid ((Tryz.prog.info? 39).map (·.size) = some 3) := by show _ = _; kernel_rfl
  have HNW : Hid (∀ o, (w.alloc o).heap[w.heap.size]? = some o) := fun o => heap_alloc_new w o
  have HG0 : Hid (∀ o, w.grownBy (w.alloc o).drew none) := fun o => ⟨(World.grownBy_alloc w o none).os, (World.grownBy_alloc w o none).tape, (World.grownBy_alloc w o none).output, (World.grownBy_alloc w o none).size, (World.grownBy_alloc w o none).block⟩
  have HSZ0 : Hid (∀ o, (w.alloc o).heap.size = w.heap.size + 1) := fun o => World.size_alloc w o
  have H1 := Lib.hid h1
  have HC1' := Lib.hid hx1
  have HC2' := Lib.hid hx2
  have HC3' := Lib.hid hx3
  have HFA' := Lib.hid HFk
  have HGA' := Lib.hid HGk
  clear hs hc hr hb1 hb2 hcc hx1 hx2 hx3 hL hR hn1 hn2 hC hCw hmx HFs HFk HGs HGk h1 HFf HGf hq1 hq2 hmem
  go_enter Tryz.func62, Tryz.ntmps62
  go_wp2_with fail
  obtain ⟨W0, hW0⟩ : ∃ W0, W0 = w.alloc (.cells #[.slice none 0 0, .slice none 0 0] 44) := ⟨_, rfl⟩
  have hb1 : Hid (w.grownBy W0.drew none) := by subst hW0; exact HG0.out _
  have HC1 : Hid (W0.drew.cell? ⟨b1, o1, none⟩ = some (.slice la ln lc)) := hb1.out.cell HC1'.out (by simp)
  have HC2 : Hid (W0.drew.cell? ⟨b1, o1 + 1, none⟩ = some (.slice ra rn rc)) := hb1.out.cell HC2'.out (by simp)
  have HC3 : Hid (W0.drew.cell? ⟨b2, o2, none⟩ = some (.int .u64 C)) := hb1.out.cell HC3'.out (by simp)
  have HFA := HFA'
  have HGA := HGA'
  have H0 : Hid (W0.heap[w.heap.size]? = some (.cells #[.slice none 0 0, .slice none 0 0] 44 (0, 0))) := by subst hW0; exact HNW.out _
  have HSZ : Hid (W0.heap.size = w.heap.size + 1) := by subst hW0; exact HSZ0.out _
  rw [← hW0]
  clear hW0
  refine wp_region_told2 HMX.out 13 [(7, 7), (8, 8), (9, 9), (10, 10), (11, 11), (12, 12), (13, 13), (14, 14), (15, 15), (16, 16), (17, 17), (18, 18), (6, 6), (6, 6)]
    (fun (j : Nat) (v u : Value) (w0 : World) => match j with
      | 0 => v = .slice (some ⟨b1, o1, none⟩) 2 sc
      | 1 => v = .pointer (some ⟨b1, o1, none⟩)
      | 2 => v = .slice la ln lc
      | 3 => v = .slice fa fn fc
      | 4 => v = .slice (some ⟨b1, o1, none⟩) 2 sc
      | 5 => v = .pointer (some ⟨b1, o1 + 1, none⟩)
      | 6 => v = .slice ra rn rc
      | 7 => v = .slice ga gn gc
      | 8 => v = .slice (some ⟨b2, o2, none⟩) cn cc
      | 9 => v = .pointer (some ⟨b2, o2, none⟩)
      | 10 => v = .int .u64 C
      | 11 => v = .agg #[Value.slice fa fn fc, Value.slice ga gn gc, Value.int .u64 C]
      | 12 => ∃ g cs, v = .pointer (some ⟨g, 0, none⟩) ∧ W0.heap.size ≤ g ∧ w0.heap[g]? = some (.cells cs 39 (0, 0)) ∧ cs.size = 3
      | 13 => ∃ g, v = .pointer (some ⟨g, 0, none⟩) ∧ W0.heap.size ≤ g ∧ w0.heap[g]? = some (.cells #[Value.slice fa fn fc, Value.slice ga gn gc, Value.int .u64 C] 39 (0, 0))
      | _ => True)
    (fun W => (W0).drew.grownBy W none) (fun a0 w0 w' => ∃ g cs, a0.eval (.tmp 6) = .pointer (some ⟨g, 0, none⟩) ∧ W0.heap.size ≤ g ∧ w0.grownBy w' (some g) ∧ w'.heap[g]? = some (.cells cs 39 (0, 0)) ∧ cs.size = 3) (by kernel_rfl) (by kernel_rfl) (World.grownBy.refl _ _) (fun _ _ h1 h2 => h1.trans h2) (fun _ _ _ h1 h2 => rr_fresh h1 h2) ?_ ?_ ?_ ?_
  · intro j v u w0 w' h hg
    match j, h with
    | 0, h => exact h
    | 1, h => exact h
    | 2, h => exact h
    | 3, h => exact h
    | 4, h => exact h
    | 5, h => exact h
    | 6, h => exact h
    | 7, h => exact h
    | 8, h => exact h
    | 9, h => exact h
    | 10, h => exact h
    | 11, h => exact h
    | 12, h => obtain ⟨g, cs, h1, h2, h3, h4⟩ := h; exact ⟨g, cs, h1, h2, (hg.block g (Array.getElem?_eq_some_iff.1 h3).1 (by simp)).trans h3, h4⟩
    | 13, h => obtain ⟨g, h1, h2, h3⟩ := h; exact ⟨g, h1, h2, (hg.block g (Array.getElem?_eq_some_iff.1 h3).1 (by simp)).trans h3⟩
    | j + 14, h => exact h
  · intro j v u a0 w0 w' hne h hr
    match j, hne, h with
    | 0, hne, h => exact h
    | 1, hne, h => exact h
    | 2, hne, h => exact h
    | 3, hne, h => exact h
    | 4, hne, h => exact h
    | 5, hne, h => exact h
    | 6, hne, h => exact h
    | 7, hne, h => exact h
    | 8, hne, h => exact h
    | 9, hne, h => exact h
    | 10, hne, h => exact h
    | 11, hne, h => exact h
    | 12, hne, h => obtain ⟨g, cs, h1, h2, h3, h4⟩ := h; obtain ⟨g1, cs1, r1, r2, r3, r4, r5⟩ := hr; exact rr_kept h2 h3 h4 r2 r3 r4 r5 h1
    | 13, hne, h => exact absurd rfl hne
    | j + 14, _, h => exact h
  · intro i1 o ho a1 w1 hJ hw ht
    match i1, ho with
    | 0, ho =>
      obtain rfl := Option.some.inj ho
      exact StepsTo.move rfl (.tmp 0) (.inl rfl) ⟨(hw 0 (by kernel_rfl)), fun h => absurd h (by decide), fun _ => World.grownBy.refl _ _⟩
    | 1, ho =>
      obtain rfl := Option.some.inj ho
      exact steps_idx (k := 0) idx_sides rfl (.tmp 7) (.const (.int .i64 0)) rfl (ht 0 (by kernel_rfl)) rfl (by omega) ⟨rfl, fun h => absurd h (by decide), fun _ => World.grownBy.refl _ _⟩
    | 2, ho =>
      obtain rfl := Option.some.inj ho
      exact steps_ldd (ldd_side _ _ _) rfl (.tmp 8) rfl (ht 1 (by kernel_rfl)) (hJ.cell HC1.out (by simp)) ⟨rfl, fun h => absurd h (by decide), fun _ => World.grownBy.refl _ _⟩
    | 3, ho =>
      obtain rfl := Option.some.inj ho
      exact StepsTo.enter rfl _ _ (run_fieldSide rfl (ht 2 (by kernel_rfl))) (HFA.out _ (hb1.out.trans hJ)) (fun e w' h => ⟨_, h.1, rfl, fun h => absurd h (by decide), fun _ => by rw [h.2]; exact World.grownBy.refl _ _⟩)
    | 4, ho =>
      obtain rfl := Option.some.inj ho
      exact StepsTo.move rfl (.tmp 0) (.inl rfl) ⟨(hw 0 (by kernel_rfl)), fun h => absurd h (by decide), fun _ => World.grownBy.refl _ _⟩
    | 5, ho =>
      obtain rfl := Option.some.inj ho
      exact steps_idx (k := 1) idx_sides rfl (.tmp 11) (.const (.int .i64 1)) rfl (ht 4 (by kernel_rfl)) rfl (by omega) ⟨rfl, fun h => absurd h (by decide), fun _ => World.grownBy.refl _ _⟩
    | 6, ho =>
      obtain rfl := Option.some.inj ho
      exact steps_ldd (ldd_side _ _ _) rfl (.tmp 12) rfl (ht 5 (by kernel_rfl)) (hJ.cell HC2.out (by simp)) ⟨rfl, fun h => absurd h (by decide), fun _ => World.grownBy.refl _ _⟩
    | 7, ho =>
      obtain rfl := Option.some.inj ho
      exact StepsTo.enter rfl _ _ (run_fieldSide rfl (ht 6 (by kernel_rfl))) (HGA.out _ (hb1.out.trans hJ)) (fun e w' h => ⟨_, h.1, rfl, fun h => absurd h (by decide), fun _ => by rw [h.2]; exact World.grownBy.refl _ _⟩)
    | 8, ho =>
      obtain rfl := Option.some.inj ho
      exact StepsTo.move rfl (.tmp 1) (.inl rfl) ⟨(hw 1 (by kernel_rfl)), fun h => absurd h (by decide), fun _ => World.grownBy.refl _ _⟩
    | 9, ho =>
      obtain rfl := Option.some.inj ho
      exact steps_idx (k := 0) idx_costs rfl (.tmp 15) (.const (.int .i64 0)) rfl (ht 8 (by kernel_rfl)) rfl H1.out ⟨rfl, fun h => absurd h (by decide), fun _ => World.grownBy.refl _ _⟩
    | 10, ho =>
      obtain rfl := Option.some.inj ho
      exact steps_ldd (ldd_cost _) rfl (.tmp 16) rfl (ht 9 (by kernel_rfl)) (hJ.cell HC3.out (by simp)) ⟨rfl, fun h => absurd h (by decide), fun _ => World.grownBy.refl _ _⟩
    | 11, ho =>
      obtain rfl := Option.some.inj ho
      exact steps_rule2 rfl (.tmp 10) (.tmp 14) (.tmp 17) rfl (ht 3 (by kernel_rfl)) (ht 7 (by kernel_rfl)) (ht 10 (by kernel_rfl)) ⟨rfl, fun h => absurd h (by decide), fun _ => World.grownBy.refl _ _⟩
    | 12, ho =>
      obtain rfl := Option.some.inj ho
      exact StepsTo.of_run (v := .pointer (some ⟨w1.heap.size, 0, none⟩)) (w' := w1.alloc (.cells #[.slice none 0 0, .slice none 0 0, .int .u64 0] 39)) rfl (by simp only [execOp]; go_simp) ⟨⟨_, _, rfl, hJ.size, heap_alloc_new _ _, rfl⟩, fun h => absurd h (by decide), fun _ => World.grownBy_alloc _ _ _⟩
    | 13, ho =>
      obtain rfl := Option.some.inj ho
      obtain ⟨g, cs, h1, h2, h3, h4⟩ := ht 12 (by kernel_rfl)
      have e18 : a1.eval (.tmp 18) = .agg #[Value.slice fa fn fc, Value.slice ga gn gc, Value.int .u64 C] := (ht 11 (by kernel_rfl))
      have h1' : a1.eval (.tmp 6) = .pointer (some ⟨g, 0, none⟩) := h1
      refine steps_store_g rfl 39 (.tmp 6) (.tmp 18) rfl h1' e18 h3 HIR.out h4 (by simp [Value.oneCell']) ?_
      intro w' hw' hg' hsz'
      exact ⟨⟨g, h1', h2, hw'⟩, fun _ => ⟨g, _, h1', h2, hg', hw', rfl⟩, fun h => absurd rfl h⟩
    | j1 + 14, ho => exact absurd (Array.getElem?_eq_some_iff.1 ho).1 (by simp)
  intro tm w1 hsz hJ hfr hto
  rw [act_lit2 tm (show tm.size = 22 from hsz)]
  simp only [List.range, List.range.loop, List.map_cons, List.map_nil]
  rw [hfr 0 (by kernel_rfl), hfr 1 (by kernel_rfl), hfr 2 (by kernel_rfl), hfr 3 (by kernel_rfl), hfr 4 (by kernel_rfl), hfr 5 (by kernel_rfl), hfr 19 (by kernel_rfl), hfr 20 (by kernel_rfl), hfr 21 (by kernel_rfl)]
  have t0 : (tm.getD 7 undef) = .slice (some ⟨b1, o1, none⟩) 2 sc := hto 0 (by decide)
  have t1 : (tm.getD 8 undef) = .pointer (some ⟨b1, o1, none⟩) := hto 1 (by decide)
  have t2 : (tm.getD 9 undef) = .slice la ln lc := hto 2 (by decide)
  have t3 : (tm.getD 10 undef) = .slice fa fn fc := hto 3 (by decide)
  have t4 : (tm.getD 11 undef) = .slice (some ⟨b1, o1, none⟩) 2 sc := hto 4 (by decide)
  have t5 : (tm.getD 12 undef) = .pointer (some ⟨b1, o1 + 1, none⟩) := hto 5 (by decide)
  have t6 : (tm.getD 13 undef) = .slice ra rn rc := hto 6 (by decide)
  have t7 : (tm.getD 14 undef) = .slice ga gn gc := hto 7 (by decide)
  have t8 : (tm.getD 15 undef) = .slice (some ⟨b2, o2, none⟩) cn cc := hto 8 (by decide)
  have t9 : (tm.getD 16 undef) = .pointer (some ⟨b2, o2, none⟩) := hto 9 (by decide)
  have t10 : (tm.getD 17 undef) = .int .u64 C := hto 10 (by decide)
  have t11 : (tm.getD 18 undef) = .agg #[Value.slice fa fn fc, Value.slice ga gn gc, Value.int .u64 C] := hto 11 (by decide)
  have t12 : ∃ g cs, (tm.getD 6 undef) = .pointer (some ⟨g, 0, none⟩) ∧ W0.heap.size ≤ g ∧ w1.heap[g]? = some (.cells cs 39 (0, 0)) ∧ cs.size = 3 := hto 12 (by decide)
  have t13 : ∃ g, (tm.getD 6 undef) = .pointer (some ⟨g, 0, none⟩) ∧ W0.heap.size ≤ g ∧ w1.heap[g]? = some (.cells #[Value.slice fa fn fc, Value.slice ga gn gc, Value.int .u64 C] 39 (0, 0)) := hto 13 (by decide)
  clear hto
  generalize tm.getD 6 undef = y6 at *
  generalize tm.getD 7 undef = y7 at *
  generalize tm.getD 8 undef = y8 at *
  generalize tm.getD 9 undef = y9 at *
  generalize tm.getD 10 undef = y10 at *
  generalize tm.getD 11 undef = y11 at *
  generalize tm.getD 12 undef = y12 at *
  generalize tm.getD 13 undef = y13 at *
  generalize tm.getD 14 undef = y14 at *
  generalize tm.getD 15 undef = y15 at *
  generalize tm.getD 16 undef = y16 at *
  generalize tm.getD 17 undef = y17 at *
  generalize tm.getD 18 undef = y18 at *
  clear hfr hsz tm
  clear t12
  obtain ⟨g, rfl, hg2, hg3⟩ := t13
  obtain rfl := t0
  obtain rfl := t1
  obtain rfl := t2
  obtain rfl := t3
  obtain rfl := t4
  obtain rfl := t5
  obtain rfl := t6
  obtain rfl := t7
  obtain rfl := t8
  obtain rfl := t9
  obtain rfl := t10
  obtain rfl := t11
  have HG3 := Lib.hid hg3
  have HIR2 : Hid ((Tryz.prog.info? 39).map (·.size) = some (#[Value.slice fa fn fc, Value.slice ga gn gc, Value.int .u64 C]).size) := HIR.out
  have HB1 : Hid (Below w.heap.size w w1) := (grown_below' hb1.out).trans ((grown_below' (w := W0.drew) hJ).mono (by have := HSZ.out; show w.heap.size ≤ W0.heap.size; omega))
  have HX : Hid (Rw.Good w1 ⟨fa, fn, fc, Spec.fside L, ga, gn, gc, Spec.fside R, C⟩) := ⟨HFS.out.below HB1.out (Nat.le_refl _), HGS.out.below HB1.out (Nat.le_refl _), HCW.out⟩
  have H01 : Hid (∀ o, (w1.alloc o).heap[w.heap.size]? = some (.cells #[.slice none 0 0, .slice none 0 0] 44 (0, 0))) := fun o => by
    have h1 : w1.heap[w.heap.size]? = some (.cells #[.slice none 0 0, .slice none 0 0] 44 (0, 0)) := (hJ.block w.heap.size (by show w.heap.size < W0.heap.size; have := HSZ.out; omega) (by simp)).trans H0.out
    exact ((World.grownBy_alloc w1 o none).block _ (Array.getElem?_eq_some_iff.1 h1).1 (by simp)).trans h1
  have HBA : Hid (∀ o, Below w.heap.size w (w1.alloc o)) := fun o => HB1.out.alloc HB1.out.size o
  have HRS : Hid (∀ t fr, Rs (w1.alloc (.cells #[.slice fa fn fc, .slice ga gn gc, .int .u64 C] t fr)) (some ⟨w1.heap.size, 0, none⟩) 1 1 [⟨fa, fn, fc, Spec.fside L, ga, gn, gc, Spec.fside R, C⟩]) := fun t fr => Rs.newc [⟨fa, fn, fc, Spec.fside L, ga, gn, gc, Spec.fside R, C⟩] (by intro x hx; rw [List.mem_singleton.1 hx]; exact HX.out) (by simp [maxLen]) rfl rfl rfl
  have HNB : Hid (w1.heap.size ≠ w.heap.size) := by have h1 := HB1.out.size; have h2 := hJ.size; have h3 := HSZ.out; show _ ≠ _; intro h4; have : W0.heap.size ≤ w1.heap.size := h2; omega
  clear hg2 hg3 hJ
  go_wp2_with (first
    | (refine wpList_load_row_w (by rfl) 39 (.tmp 6) (by rfl) g (by rfl) 39 #[.slice fa fn fc, .slice ga gn gc, .int .u64 C] (0, 0) _ HG3.out Tryz.underlying39 (by rfl) HIR2.out ?_)
    | (refine wpList_store_g (by rfl) 44 (.tmp 4) (.tmp 21) (by rfl) w.heap.size #[.slice none 0 0, .slice (some ⟨w1.heap.size, 0, none⟩) 1 1] (by rfl) (by rfl) 44 #[.slice none 0 0, .slice none 0 0] (H01.out _) HI.out rfl (spec_cells _ _ _ _ _ _) ?_
       intro w5 hw5 hgr5 hsz5
       have HW5 := Lib.hid hw5
       have HG5 := Lib.hid hgr5
       clear hw5 hgr5 hsz5))
  refine bodyPost_ret (results_cell_row_tmp rfl _ _ w.heap.size 44 #[.slice none 0 0, .slice (some ⟨w1.heap.size, 0, none⟩) 1 1] (0, 0) _ (by rfl) HW5.out Tryz.underlying44 (by rfl) HI.out) rfl ?_
  have hB5 : Below w.heap.size w w5 := (HBA.out _).grown HG5.out (HBA.out _).size (fun k hk => by cases hk; exact Nat.le_refl _)
  refine ⟨none, 0, 0, _, 1, 1, [⟨fa, fn, fc, Spec.fside L, ga, gn, gc, Spec.fside R, C⟩], rfl, Sl.nil, fun _ => rfl, ?_, HR.out, (fun h => by cases h), hB5, ⟨rfl, .inr ⟨w1.heap.size, 1, _, rfl, HB1.out.size, (HG5.out.block _ (by simp) (fun e => HNB.out (Option.some.inj e))).trans (heap_alloc_new _ _), Nat.le_refl _, by simp [maxLen], rfl, rfl⟩⟩, (fun x hx => by rw [List.mem_singleton.1 hx]; exact ⟨Slf.fresh HX.out.1 (Nat.le_refl _), Slf.fresh HX.out.2.1 (Nat.le_refl _)⟩), (fun k hk hF x hx => by rw [List.mem_singleton.1 hx]; exact HFF.out k hF)⟩
  have hrs := HRS.out 39 (0, 0)
  refine ⟨hrs.1, hrs.2.1, hrs.2.2.1, fun x hx => ?_, .inr ⟨w1.heap.size, 0, rfl, fun i hi => ?_⟩⟩
  · rw [List.mem_singleton.1 hx]
    exact ⟨HFS.out.below hB5 (Nat.le_refl _), HGS.out.below hB5 (Nat.le_refl _), HCW.out⟩
  · obtain ⟨b', off', e, hc⟩ := hrs.2.2.2.2.resolve_left (by omega)
    simp only [Option.some.injEq, Addr.mk.injEq, and_true] at e
    obtain ⟨rfl, rfl⟩ := e
    exact (hc i hi).grown HG5.out (fun e => HNB.out (Option.some.inj e))

end Go.Proofs.YtjmabjeaodojeaaGreat

/- Used by the law. -/
namespace Go.Proofs.YtjmabjeaodojeaaGreat
open Go.RowKit

set_option maxRecDepth 100000 in
set_option maxHeartbeats 800000 in
theorem wpList_store_told {ops : Array Oper} {rest : List Oper} {o : Oper} {act : Act} {w : World} {Q : Exit → Act → World → Prop} (hgd : o.guard = none) (x y : Operand) (ho : o.op = .store 24 x y) (g : Nat) (u0 u1 : Value) (a : Option Addr) (n c : Nat)
    (hx : act.eval x = .pointer (some ⟨g, 1, none⟩)) (hy : act.eval y = .slice a n c) (t : TypeId) (hg : w.heap[g]? = some (.cells #[u0, u1] t (0, 0)))
    (h : ∀ w', w'.heap[g]? = some (.cells #[u0, .slice a n c] t (0, 0)) → w.grownBy w' (some g) → w'.heap.size = w.heap.size → wpList Tryz.prog ops Q rest (act.put o.dst undef) w') : wpList Tryz.prog ops Q (o :: rest) act w := by
  have hc : w.cell? ⟨g, 1, none⟩ = some u1 := by simp [World.cell?, hg]
  have hf : w.frozen? ⟨g, 1, none⟩ = false := by simp [World.frozen?, hg]
  have hlt : g < w.heap.size := (Array.getElem?_eq_some_iff.1 hg).1
  have hset : (w.setCell ⟨g, 1, none⟩ (.slice a n c)).heap[g]? = some (.cells #[u0, .slice a n c] t (0, 0)) := by
    simp [World.setCell, Array.getElem?_modify, hg]
  have hgr : w.grownBy (w.setCell ⟨g, 1, none⟩ (.slice a n c)) (some g) := ⟨rfl, rfl, rfl, by simp [World.setCell], fun k _ hne => Below.heap_setCell w ⟨g, 1, none⟩ _ k (fun e => hne (by rw [e]))⟩
  have hK' := h _ hset hgr (by simp [World.setCell])
  refine wpList_plain hgd fun K' hK => ?_
  have hrun : (execOp act.eval o).run Tryz.prog w = .ok (.value undef) (w.setCell ⟨g, 1, none⟩ (.slice a n c)) ∨ (execOp act.eval o).run Tryz.prog w = .ok .skip (w.setCell ⟨g, 1, none⟩ (.slice a n c)) := by
    simp only [execOp, ho, hx, hy]
    go_simp
  unfold Oper.wp
  rcases hrun with hr | hr <;> rw [hr]
  · exact hK _ _ hK'
  · exact hK _ _ hK'

def nilSpec : Obj := .cells #[.slice none 0 0, .slice none 0 0] 44 (0, 0)
def Tl (w W : World) (B : Nat) (outs : List Rw) : Prop :=
  ∃ a c, W.heap[w.heap.size + 1]? = some (.cells #[.slice none 0 0, .slice a outs.length c] 44 (0, 0)) ∧ Acc B W (.slice a outs.length c) outs ∧ (∀ x ∈ outs, x.High (w.heap.size + 2)) ∧
    W.heap[w.heap.size]? = some nilSpec ∧ Below w.heap.size w W ∧ w.heap.size + 2 ≤ B ∧ B ≤ W.heap.size
theorem Rw.High.mono {B B' : Nat} {x : Rw} (h : x.High B) (hB : B' ≤ B) : x.High B' := by
  obtain ⟨p, q, h1, h2, h3, h4⟩ := h
  exact ⟨p, q, h1, h2, Nat.le_trans hB h3, Nat.le_trans hB h4⟩
theorem Tl.call {w W : World} {B : Nat} {outs : List Rw} (h : Tl w W B outs) :
    ∃ a c, W.cell? ⟨w.heap.size + 1, 1, none⟩ = some (.slice a outs.length c) ∧ Acc B W.drew (.slice a outs.length c) outs ∧ B ≤ W.drew.heap.size ∧
      ∀ (W5 : World) (v' : Value) (zs : List Rw), (∀ z ∈ zs, z.High W.drew.heap.size) → Acc B W5 v' (outs ++ zs) → W.drew.grownBy W5 (Value.slice a outs.length c).ownBlock →
        ∃ a' c' M, v' = .slice a' M c' ∧ W5.heap[w.heap.size + 1]? = some (.cells #[.slice none 0 0, .slice a outs.length c] 44 (0, 0)) ∧
          ∀ W6 : World, W6.heap[w.heap.size + 1]? = some (.cells #[.slice none 0 0, .slice a' M c'] 44 (0, 0)) → W5.grownBy W6 (some (w.heap.size + 1)) → Tl w W6 B (outs ++ zs) ∧
            ∀ W1 : World, W1.heap.size ≤ B → W1.grownBy W (some (w.heap.size + 1)) → W1.grownBy W6 (some (w.heap.size + 1)) := by
  obtain ⟨a, c, h1, h2, h3, h4, h5, h7, h6⟩ := h
  refine ⟨a, c, by simp [World.cell?, h1], h2.drawn ⟨1, rfl⟩, h6, fun W5 v' zs hz hacc hgr => ?_⟩
  have hrow : ∀ g, (Value.slice a outs.length c).ownBlock = some g → B ≤ g := fun g hg => (h2.row g hg).1
  have hrow' : ∀ g, v'.ownBlock = some g → B ≤ g := fun g hg => (hacc.row g hg).1
  have k1 : W5.heap[w.heap.size + 1]? = some (.cells #[.slice none 0 0, .slice a outs.length c] 44 (0, 0)) := (hgr.block _ (show w.heap.size + 1 < W.heap.size by omega) (fun e => by have := hrow _ e.symm; omega)).trans h1
  have k0 : W5.heap[w.heap.size]? = some nilSpec := (hgr.block _ (show w.heap.size < W.heap.size by omega) (fun e => by have := hrow _ e.symm; omega)).trans h4
  have kb : Below w.heap.size w W5 := ⟨hgr.os.trans h5.os, hgr.tape.trans h5.tape, hgr.output.trans h5.output, Nat.le_trans h5.size hgr.size, fun k hk => (hgr.block k (show k < W.heap.size by have := h5.size; omega) (fun e => by have := hrow _ e.symm; omega)).trans (h5.block k hk)⟩
  obtain ⟨a', c', rfl, _, _⟩ := hacc.form
  refine ⟨a', c', _, rfl, k1, fun W6 e1 g6 => ⟨⟨a', c', e1, ?_, ?_, ?_, ?_, h7, ?_⟩, fun W1 hW1 g1 => ?_⟩⟩
  · refine ⟨hacc.1.kept g6 (.inr (fun e => by have := hrow' _ e; omega)), fun x hx => ⟨(hacc.2 x hx).1.grown g6 ?_, (hacc.2 x hx).2⟩⟩
    have hh : x.High (w.heap.size + 2) := by
      rcases List.mem_append.1 hx with hx | hx
      · exact h3 x hx
      · exact (hz x hx).mono (Nat.le_trans h7 h6)
    exact hh.far (fun g hg => by cases hg; omega)
  · intro x hx
    rcases List.mem_append.1 hx with hx | hx
    · exact h3 x hx
    · exact (hz x hx).mono (Nat.le_trans h7 h6)
  · exact (g6.block _ (by have h1 : W.heap.size ≤ W5.heap.size := hgr.size; omega) (fun e => by have := Option.some.inj e; omega)).trans k0
  · exact kb.grown g6 kb.size (fun k hk => by cases hk; omega)
  · exact Nat.le_trans h6 (Nat.le_trans hgr.size g6.size)
  · refine ⟨g6.os.trans (hgr.os.trans g1.os), g6.tape.trans (hgr.tape.trans g1.tape), g6.output.trans (hgr.output.trans g1.output), Nat.le_trans g1.size (Nat.le_trans hgr.size g6.size), fun k hk hne => ?_⟩
    have hkW : k < W.heap.size := Nat.lt_of_lt_of_le hk g1.size
    have hkW5 : k < W5.heap.size := Nat.lt_of_lt_of_le hkW hgr.size
    exact (g6.block k hkW5 hne).trans ((hgr.block k hkW (fun e => by have := hrow _ e.symm; omega)).trans (g1.block k hk hne))

end Go.Proofs.YtjmabjeaodojeaaGreat
