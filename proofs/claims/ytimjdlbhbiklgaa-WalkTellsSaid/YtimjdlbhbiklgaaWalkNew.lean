/- Used by the law. -/
import Derived.Test.YtimjdlbhbiklgaaWalkTeller
import Derived.Test.YtimjdlbhbiklgaaWalkLast
import Derived.Test.YtimjdlbhbiklgaaDawgLists
import Derived.Deep.RegionHeld3
namespace Go.Proofs.Ytimjdlbhbiklgaa
open Go.RowKit Tri Wlk

set_option maxRecDepth 100000 in
theorem run_store_func {P : Program} {w : World} (a : Addr) (m : Mode) (f : Fn) (b c : Array Value) : (store a (.func f b c) m).run P w = stored P w a (.func f b c) m := run_store P w a _ m rfl
attribute [local go_sem] run_store_func
set_option maxRecDepth 100000 in
theorem info_arcs : (Try.prog.info? 45).map (fun i => (i.zero, i.size, i.bytes)) = some (some (.slice none 0 0), 1, 24) := by kernel_rfl
structure Al (B : Nat) (w : World) (a : Option Addr) (L c : Nat) (outs : List Sw) : Prop where
  row : w.ownsRow B 45 1 (.slice a L c) L (outs.map Sw.s)
  own : ∀ x ∈ outs, w.ownsRow B 59 2 x.s x.n (acells x.arcs)
  wfs : ∀ x ∈ outs, ∀ z ∈ x.arcs, (Lit.int .i64 z.1).wf = true ∧ (Lit.int .i64 z.2).wf = true
  lens : ∀ x ∈ outs, x.arcs.length = x.n
  len : outs.length = L
  nil : a = none → c = 0
theorem Al.start (B : Nat) (w : World) : Al B w none 0 0 [] :=
  ⟨⟨rfl, .inl ⟨rfl, rfl⟩⟩, by simp, by simp, by simp, rfl, fun _ => rfl⟩
theorem Al.below {B : Nat} {w w' : World} {a : Option Addr} {L c : Nat} {outs : List Sw} (h : Al B w a L c outs) (hb : Below w.heap.size w w') : Al B w' a L c outs :=
  ⟨ownsRow_below h.row hb (Nat.le_refl _), fun x hx => ownsRow_below (h.own x hx) hb (Nat.le_refl _), h.wfs, h.lens, h.len, h.nil⟩
theorem Al.lower {B B' : Nat} {w : World} {a : Option Addr} {L c : Nat} {outs : List Sw} (h : Al B w a L c outs) (hB : B' ≤ B) : Al B' w a L c outs :=
  ⟨own_lower h.row hB, fun x hx => own_lower (h.own x hx) hB, h.wfs, h.lens, h.len, h.nil⟩
theorem Al.good {B : Nat} {w : World} {a : Option Addr} {L c : Nat} {outs : List Sw} (h : Al B w a L c outs) {x : Sw} (hx : x ∈ outs) : x.Good w := Ars.of_owns (h.own x hx) (h.wfs x hx) (h.lens x hx)
theorem Al.set {B : Nat} {w : World} {a : Option Addr} {L c : Nat} {outs : List Sw} (h : Al B w a L c outs) (b o : Nat) (v : Value) (hb : b < B) : Al B (w.setCell ⟨b, o, none⟩ v) a L c outs := by
  have hne : ∀ {e : TypeId} {size n : Nat} {u : Value} {l : List Value}, w.ownsRow B e size u n l → (w.setCell ⟨b, o, none⟩ v).ownsRow B e size u n l := fun h => by
    refine ⟨h.1, ?_⟩
    rcases h.2 with hn | ⟨g, cap, cur, rfl, hg, hgg, rest⟩
    · exact .inl hn
    · exact .inr ⟨g, cap, cur, rfl, hg, (heap_setCell_other _ _ _ _ (by show g ≠ b; omega)).trans hgg, rest⟩
  exact ⟨hne h.row, fun x hx => hne (h.own x hx), h.wfs, h.lens, h.len, h.nil⟩
theorem Sl.set4 {k : IntKind} {w : World} {b n cap : Nat} {zs : List Int} (h : Sl k w (some ⟨b, 0, none⟩) n cap zs) (r : Nat) (v0 v1 v2 v3 : Value) (hb : r < b) : Sl k ((((w.setCell ⟨r, 0, none⟩ v0).setCell ⟨r, 1, none⟩ v1).setCell ⟨r, 2, none⟩ v2).setCell ⟨r, 3, none⟩ v3) (some ⟨b, 0, none⟩) n cap zs := by
  have hk : Keep (fun k => k ≠ r) w ((((w.setCell ⟨r, 0, none⟩ v0).setCell ⟨r, 1, none⟩ v1).setCell ⟨r, 2, none⟩ v2).setCell ⟨r, 3, none⟩ v3) :=
    (((Keep.setCell w ⟨r, 0, none⟩ v0 (fun h => h rfl)).trans (Keep.setCell _ ⟨r, 1, none⟩ v1 (fun h => h rfl))).trans (Keep.setCell _ ⟨r, 2, none⟩ v2 (fun h => h rfl))).trans (Keep.setCell _ ⟨r, 3, none⟩ v3 (fun h => h rfl))
  exact h.keep hk fun b' off e => by
    simp only [Option.some.injEq, Addr.mk.injEq] at e
    omega
set_option maxRecDepth 100000 in
theorem ne_al : (45 : TypeId) ≠ 59 := by decide
theorem arcs_apart {w w' : World} {B B' size n k : Nat} {e : TypeId} {v u : Value} {l xs : List Value} (hg : w.grownBy w' v.ownBlock) (h : w.ownsRow B' e size v n l) (hne : e ≠ 59) (ho : w.ownsRow B 59 2 u k xs) : w'.ownsRow B 59 2 u k xs := by
  refine ⟨ho.1, ?_⟩
  rcases ho.2 with hn | ⟨g, cap, cur, rfl, hb, hgg, rest⟩
  · exact .inl hn
  · refine .inr ⟨g, cap, cur, rfl, hb, (hg.block g (Array.getElem?_eq_some_iff.1 hgg).1 (fun e' => ?_)).trans hgg, rest⟩
    obtain ⟨cur', hc⟩ := own_obj h e'.symm
    rw [hgg] at hc
    simp only [Option.some.injEq, Obj.cells.injEq] at hc
    exact hne hc.2.1.symm
theorem Al.add {B : Nat} {w w' : World} {a a' : Option Addr} {L c c' : Nat} {outs : List Sw} (h : Al B w a L c outs) (x : Sw) (hx : w.ownsRow B 59 2 x.s x.n (acells x.arcs)) (hz : ∀ z ∈ x.arcs, (Lit.int .i64 z.1).wf = true ∧ (Lit.int .i64 z.2).wf = true) (hl : x.arcs.length = x.n)
    (hrow : w'.ownsRow B 45 1 (.slice a' (L + 1) c') (L + 1) ((outs ++ [x]).map Sw.s)) (hg : w.grownBy w' (Value.slice a L c).ownBlock) (hn : a' = none → c' = 0) : Al B w' a' (L + 1) c' (outs ++ [x]) := by
  refine ⟨hrow, fun y hy => ?_, fun y hy => ?_, fun y hy => ?_, by simp [h.len], hn⟩
  · rcases List.mem_append.1 hy with hy | hy
    · exact arcs_apart hg h.row ne_al (h.own y hy)
    · rw [List.mem_singleton.1 hy]; exact arcs_apart hg h.row ne_al hx
  · rcases List.mem_append.1 hy with hy | hy
    · exact h.wfs y hy
    · rw [List.mem_singleton.1 hy]; exact hz
  · rcases List.mem_append.1 hy with hy | hy
    · exact h.lens y hy
    · rw [List.mem_singleton.1 hy]; exact hl
theorem svals_one (outs : List Sw) : ∀ u ∈ outs.map Sw.s, u.oneCell' = true := by
  intro u hu
  obtain ⟨x, _, rfl⟩ := List.mem_map.1 hu
  rfl
set_option maxRecDepth 100000 in
theorem step_build_slice {w : World} {ops : Array Oper} {o : Oper} {act : Act} {K : Act → World → Prop} {Q : Exit → Act → World → Prop} {E : Prop} (hw : Region.wanted o (yielded ops act.tmps) = true) (x : Operand) (a : Option Addr) (n c : Nat)
    (ho : o.op = .buildSlice 86 1 #[(0, x)]) (hx : act.eval x = .slice a n c) (h : ∀ g w', w'.cell? ⟨g, 0, none⟩ = some (.slice a n c) → Below w.heap.size w w' → K (act.put o.dst (.slice (some ⟨g, 0, none⟩) 1 1)) w') :
    if Region.wanted o (yielded ops act.tmps) = true then o.wp Try.prog act w K Q else E := by
  rw [if_pos hw]
  unfold Oper.wp
  simp only [execOp, ho, List.map_toArray, List.map_cons, List.map_nil, hx]
  go_simp
  exact h _ _ (by rw [World.cell?, heap_alloc_new]; rfl) ((Below.refl _ w).alloc (Nat.le_refl _) _)
set_option maxRecDepth 100000 in
theorem step_append_arcs {w : World} {ops : Array Oper} {o : Oper} {act : Act} {K : Act → World → Prop} {Q : Exit → Act → World → Prop} {E : Prop} (hw : Region.wanted o (yielded ops act.tmps) = true) (s x : Operand)
    (ho : o.op = .call { callee := .builtin .append, args := #[s, x], argTypes := #[86, 86] }) (base : Nat) (v : Value) (n : Nat) (l : List Sw) (hs : act.eval s = v)
    (hown : w.ownsRow base 45 1 v n (l.map Sw.s)) (g : Nat) (y : Sw) (hx : act.eval x = .slice (some ⟨g, 0, none⟩) 1 1) (h0 : w.cell? ⟨g, 0, none⟩ = some y.s)
    (N : Nat) (hN : n + 1 = N) (h63 : N * 24 ≤ 140737488355328) (hbase : base ≤ w.heap.size)
    (h : ∀ a' c' w', w'.ownsRow base 45 1 (.slice a' N c') N ((l ++ [y]).map Sw.s) → Below base w w' → w.grownBy w' v.ownBlock → (a' = none → c' = 0) → K (act.put o.dst (.slice a' N c')) w') :
    if Region.wanted o (yielded ops act.tmps) = true then o.wp Try.prog act w K Q else E := by
  subst hN
  rw [if_pos hw]
  refine wp_append_cells s x 86 45 ho _ 1 24 Try.underlying86 info_arcs rfl (by omega) base v n (l.map Sw.s) hs hown _ 1 1 ([y].map Sw.s) hx rfl (fun _ => ⟨_, rfl, fun j u hj => ?_⟩) (svals_one [y]) (by unfold maxLen; omega) (by omega) hbase ?_
  · match j, hj with
    | 0, hj => simp at hj; rw [← hj, ← h0]; simp [Addr.add]
    | j + 1, hj => simp at hj
  · intro a' c' w' h1 h2 h3 h4
    exact h a' c' w' (by rw [List.map_append]; exact h1) h2 h3 h4

set_option maxRecDepth 100000 in
set_option maxHeartbeats 6400000 in
theorem newTeller_is {l : List St} (hc : check l = true) (a : Option Addr) (n cap yl : Nat) (ys : List Sw) (w : World) (hy : Ss w a n cap ys) (hys : sts ys = l) :
    Calls Try.prog 55 #[.slice a n cap, .func (.yield yl) #[] #[]] w fun e w' => ∃ (da wa : Option Addr) (dc wc : Nat) (ds : List Int) (outs : List Sw), e = .returned (.agg #[.slice a n cap, .slice da n dc, .slice wa n wc, .func (.yield yl) #[] #[]]) ∧
      Sl .i64 w' da n dc ds ∧ (∀ b off, da = some ⟨b, off, none⟩ → w.heap.size ≤ b) ∧ (∀ j, j < n → ds.getD j 0 = dp (wds l j)) ∧ Al w.heap.size w' wa n wc outs ∧ outs.map Sw.arcs = (List.range n).map (fun j => goes l j (-1)) ∧ Below w.heap.size w w' := by
  have hyl : l.length = n := by rw [← hys, sts_length]; exact hy.1
  have hN : n ≤ 6001 := by have := (check_size hc).2; omega
  have hncap := hy.2.1
  have hcapm := hy.2.2.1
  unfold maxLen at hcapm
  have HY := Lib.hid hy
  have HYS := Lib.hid hys
  have HYL := Lib.hid hyl
  have HC := Lib.hid hc
  have HB0 : ∀ o, Hid (Below w.heap.size w (w.alloc o)) := fun o => Lib.hid ((Below.refl _ w).alloc (Nat.le_refl _) o)
  have HFL : Hid (∀ W, Ss W a n cap ys → Calls Try.prog 37 #[.slice a n cap, .func (.func 39) #[] #[]] W _) := Lib.hid fun W h => fromLast_deep hc a n cap ys W h hys
  clear hy hys hyl hc
  have hmx : Try.prog.follows .mixedOrders = true := by kernel_rfl
  go_enter Try.func55, Try.ntmps55
  go_wp2_with (go_at_call 37; refine (HFL.out _ (HY.out.alloc _)).mono ?_; rintro e w1 ⟨rfl, ds, hown1, hdl1, hdw1, hdv1, hb1⟩; simp only [World.size_alloc] at hown1; have HOD := Lib.hid hown1; have HDL := Lib.hid hdl1; have HDW := Lib.hid hdw1; have HDV := Lib.hid hdv1; have HBW := Lib.hid hb1; clear hown1 hdl1 hdw1 hdv1 hb1)
  have HAFT : Hid (∀ (W : World) (j : Nat) (wa : Option Addr) (wn wc : Nat), j < n → Below w1.heap.size w1 W → Calls Try.prog 59 #[.agg #[.slice a n cap, .slice (some ⟨w.heap.size + 1 + 1, 0, none⟩) n n, .slice wa wn wc, .func (.yield yl) #[] #[]], .int .i64 (j : Int), .int .i64 (-1)] W
      fun e w' => ∃ a' k c', e = .returned (.slice a' k c') ∧ (goes l j (-1)).length = k ∧ w'.ownsRow W.heap.size 59 2 (.slice a' k c') k (acells (goes l j (-1))) ∧ Below W.heap.size W w') := Lib.hid fun W j wa wn wc hj hW => by
    have hsl : Sl .i64 W (some ⟨w.heap.size + 1 + 1, 0, none⟩) n n ds := (Sl.of_owns HOD.out HDW.out HDL.out).below hW (Nat.le_refl _)
    have hss : Ss W a n cap ys := ((HY.out.alloc _).below HBW.out (Nat.le_refl _)).below hW (Nat.le_refl _)
    refine (after_is HC.out j (by rw [HYL.out]; exact hj) (-1) ys HYS.out a _ wa n cap n n wn wc yl ds W hss hsl HYL.out.symm (fun i hi => HDV.out i (by rw [← HYL.out]; exact hi))).mono ?_
    rintro e w' ⟨a', c', rfl, h1, h2⟩
    exact ⟨a', _, c', rfl, rfl, h1, h2⟩
  have hs1 : w.heap.size + 1 + 1 < w1.heap.size := by have := (HOD.out.lt _ rfl).2; simpa using this
  have hrz : w1.heap[w.heap.size]? = some (.cells #[.slice none 0 0, .slice none 0 0, .slice none 0 0, .nilFunc] 88 (0, 0)) := by
    rw [HBW.out.block w.heap.size (by simp)]; exact heap_alloc_new w _
  have HRZ := Lib.hid hrz
  clear hrz
  go_loopw [14] (fun ix wr => ∃ (j : Nat) (wa : Option Addr) (wc : Nat) (outs : List Sw), j ≤ n ∧ ix = .int .i64 (j : Int) ∧ Hid (wr.heap[w1.heap.size]? = some (.cells #[.slice a n cap, .slice (some ⟨w.heap.size + 1 + 1, 0, none⟩) n n, .slice wa j wc, .func (.yield yl) #[] #[]] 88 (0, 0))) ∧
    Hid (Al (w1.heap.size + 1) wr wa j wc outs) ∧ Hid (outs.map Sw.arcs = (List.range j).map (fun j => goes l j (-1))) ∧ Hid (Below w1.heap.size w1 wr)) (fun ix _ => n - (intOf ix).toNat)
  case atStart => exact ⟨0, none, 0, [], Nat.zero_le _, rfl, heap_alloc_new w1 _, Al.start _ _, rfl, (Below.refl _ _).alloc (Nat.le_refl _) _⟩
  case round =>
    obtain ⟨j, wa, wc, outs, hj, rfl, HBX, HAL, HMP, HW⟩ := hrel
    by_cases hlt : j < n
    · have hlti : (j : Int) < (n : Int) := by omega
      have hDX : Below wr.heap.size wr wr.drew := below_drawn (Below.refl _ _) ⟨1, rfl⟩
      have hsz := (Array.getElem?_eq_some_iff.1 HBX.out).1
      have HCX : Hid (∀ W : World, Below wr.heap.size wr W → W.heap[w1.heap.size]? = some (.cells #[.slice a n cap, .slice (some ⟨w.heap.size + 1 + 1, 0, none⟩) n n, .slice wa j wc, .func (.yield yl) #[] #[]] 88 (0, 0)) ∧ W.cell? ⟨w1.heap.size, 2, none⟩ = some (.slice wa j wc)) := Lib.hid fun W hW => by
        have h : W.heap[w1.heap.size]? = _ := (hW.block w1.heap.size hsz).trans HBX.out
        exact ⟨h, by rw [cell_of_obj h]; rfl⟩
      have c0 : wr.drew.cell? ⟨w1.heap.size, 0, none⟩ = some (.slice a n cap) := by rw [cell_of_obj (HCX.out _ hDX).1]; rfl
      have c1 : wr.drew.cell? ⟨w1.heap.size, 1, none⟩ = some (.slice (some ⟨w.heap.size + 1 + 1, 0, none⟩) n n) := by rw [cell_of_obj (HCX.out _ hDX).1]; rfl
      have c2 := (HCX.out _ hDX).2
      have c3 : wr.drew.cell? ⟨w1.heap.size, 3, none⟩ = some (.func (.yield yl) #[] #[]) := by rw [cell_of_obj (HCX.out _ hDX).1]; rfl
      have HGW : Hid (∀ z ∈ goes l j (-1), (Lit.int .i64 z.1).wf = true ∧ (Lit.int .i64 z.2).wf = true) := Lib.hid fun z hz => by
        obtain ⟨g1, g2, g3⟩ := (check_arcs HC.out (by rw [HYL.out]; exact hlt)).1 z (goes_mem hz).1
        have := (Utf.good_iff _).1 g1
        rw [HYL.out] at g3
        exact ⟨WalkArith.wf_i64 (by omega), WalkArith.wf_i64 (by omega)⟩
      go_wp2
      refine wp_region_held_drew (S := (fun _ => True)) (by kernel_rfl) (by first | (trivial) | ((try dsimp only); trivial)) (fun hHeld => ?_)
      refine wpAnyH_take (i := 0) (v := ?v1) rfl (by kernel_rfl) (by kernel_rfl) (by kernel_rfl) (fun _ _ _ h => h) (Or.inl ⟨by rfl, ?h1⟩) (by assumption) ?r1
      case h1 => intro w hSw; (try dsimp only at hSw); go_simp; try with_reducible rfl
      simp only [Act.put, List.getElem_toArray, List.getElem_cons_succ, List.getElem_cons_zero, List.setIfInBounds_toArray, List.set_cons_succ, List.set_cons_zero]
      refine wpAnyH_take (i := 3) (v := ?v4) rfl (by kernel_rfl) (by kernel_rfl) (by kernel_rfl) (fun _ _ _ h => h) (Or.inl ⟨by rfl, ?h4⟩) (by assumption) ?r4
      case h4 => intro w hSw; (try dsimp only at hSw); go_simp; try with_reducible rfl
      simp only [Act.put, List.getElem_toArray, List.getElem_cons_succ, List.getElem_cons_zero, List.setIfInBounds_toArray, List.set_cons_succ, List.set_cons_zero]
      refine wpAnyH_ready (rs := [1, 2]) (by kernel_rfl) (by simp) ?_
      refine AllReadyH.cons rfl (fun K hK => ?_) (AllReadyH.cons rfl (fun K hK => ?_) AllReadyH.nil)
      · go_simp
        refine hK.out _ _ (by first | (trivial) | ((try dsimp only); trivial)) (fun hHeld => ?_)
        clear hK K
        try simp only [Act.put, List.getElem_toArray, List.getElem_cons_succ, List.getElem_cons_zero, List.setIfInBounds_toArray, List.set_cons_succ, List.set_cons_zero]
        refine wpAnyH_ready (rs := [2]) (by kernel_rfl) (by simp) ?_
        refine AllReadyH.cons rfl (fun K hK => ?_) AllReadyH.nil
        go_simp
        refine hK.out _ _ (by first | (trivial) | ((try dsimp only); trivial)) (fun hHeld => ?_)
        clear hK K
        try simp only [Act.put, List.getElem_toArray, List.getElem_cons_succ, List.getElem_cons_zero, List.setIfInBounds_toArray, List.set_cons_succ, List.set_cons_zero]
        refine wpAnyH_ready (rs := [4]) (by kernel_rfl) (by simp) ?_
        refine AllReadyH.cons rfl (fun K hK => ?_) AllReadyH.nil
        go_simp
        go_at_call 59
        refine (HAFT.out _ j wa j wc hlt (HW.out.trans (hDX.mono HW.out.size))).mono ?_
        rintro e w7 ⟨a7, k7, c7, rfl, hk7, hown7, hb7'⟩
        have hb7 : Below wr.heap.size wr w7 := hDX.trans hb7'
        have c27 := (HCX.out _ hb7).2
        have HO7 := Lib.hid hown7
        have HK7 := Lib.hid hk7
        clear hown7 hk7
        go_wp2_with fail
        refine hK.out _ _ (by first | (trivial) | ((try dsimp only); trivial)) (fun hHeld => ?_)
        clear hK K
        try simp only [Act.put, List.getElem_toArray, List.getElem_cons_succ, List.getElem_cons_zero, List.setIfInBounds_toArray, List.set_cons_succ, List.set_cons_zero]
        refine wpAnyH_ready (rs := [5]) (by kernel_rfl) (by simp) ?_
        refine AllReadyH.cons rfl (fun K hK => ?_) AllReadyH.nil
        refine step_build_slice (by rfl) (.tmp 21) a7 k7 c7 (by rfl) (by rfl) ?_
        intro gB wB hcB hbB'
        have hbB : Below wr.heap.size wr wB := hb7.trans (hbB'.mono hb7.size)
        have c2B := (HCX.out _ hbB).2
        have HOB := Lib.hid (ownsRow_below HO7.out hbB' (Nat.le_refl _))
        refine hK.out _ _ (by first | (trivial) | ((try dsimp only); trivial)) (fun hHeld => ?_)
        clear hK K
        try simp only [Act.put, List.getElem_toArray, List.getElem_cons_succ, List.getElem_cons_zero, List.setIfInBounds_toArray, List.set_cons_succ, List.set_cons_zero]
        refine wpAnyH_ready (rs := [6]) (by kernel_rfl) (by simp) ?_
        refine AllReadyH.cons rfl (fun K hK => ?_) AllReadyH.nil
        refine step_append_arcs (by rfl) (.tmp 18) (.tmp 22) (by rfl) (w1.heap.size + 1) (.slice wa j wc) j outs (by rfl) (HAL.out.below hbB).row gB ⟨false, a7, k7, c7, goes l j (-1)⟩ (by rfl) hcB (j + 1) rfl (by omega) (by have := hbB.size; omega) ?_
        intro a9 c9 w9 hrow9 hb9' hgr9 hnil9
        have h99 : w9.heap[w1.heap.size]? = _ := (hb9'.block w1.heap.size (by omega)).trans (HCX.out _ hbB).1
        have c29 : w9.cell? ⟨w1.heap.size, 2, none⟩ = some (.slice wa j wc) := (by rw [cell_of_obj h99]; rfl)
        have f29 : w9.frozen? ⟨w1.heap.size, 2, none⟩ = false := frozen_of_row w9 _ 2 _ _ h99
        have HA9 := Lib.hid ((HAL.out.below hbB).add ⟨false, a7, k7, c7, goes l j (-1)⟩ (own_mono HOB.out hsz) HGW.out HK7.out hrow9 hgr9 hnil9)
        have HH9 := Lib.hid h99
        have HBL9 : Hid (Below w1.heap.size w1 w9) := Lib.hid ((HW.out.trans (hbB.mono HW.out.size)).trans (hb9'.mono (by omega)))
        clear h99 hrow9 hb9' hgr9 hnil9
        refine hK.out _ _ (by first | (trivial) | ((try dsimp only); trivial)) (fun hHeld => ?_)
        clear hK K
        try simp only [Act.put, List.getElem_toArray, List.getElem_cons_succ, List.getElem_cons_zero, List.setIfInBounds_toArray, List.set_cons_succ, List.set_cons_zero]
        refine wpAnyH_take (i := 7) (v := ?v58) rfl (by kernel_rfl) (by kernel_rfl) (by kernel_rfl) (fun _ _ _ h => h) (Or.inl ⟨by rfl, ?h58⟩) (by assumption) ?r58
        case h58 => intro w hSw; (try dsimp only at hSw); go_simp; try with_reducible rfl
        simp only [Act.put, List.getElem_toArray, List.getElem_cons_succ, List.getElem_cons_zero, List.setIfInBounds_toArray, List.set_cons_succ, List.set_cons_zero]
        refine wpAnyH_ready (rs := [8]) (by kernel_rfl) (by simp) ?_
        refine AllReadyH.cons rfl (fun K hK => ?_) AllReadyH.nil
        go_simp
        refine hK.out _ _ (by first | (trivial) | ((try dsimp only); trivial)) (fun hHeld => ?_)
        clear hK K
        try simp only [Act.put, List.getElem_toArray, List.getElem_cons_succ, List.getElem_cons_zero, List.setIfInBounds_toArray, List.set_cons_succ, List.set_cons_zero]
        refine wpAnyH_done (by kernel_rfl) ?_ _
        clear hHeld
        have HXE : Hid ((w9.setCell ⟨w1.heap.size, 2, none⟩ (.slice a9 (j + 1) c9)).heap[w1.heap.size]? = some (.cells #[.slice a n cap, .slice (some ⟨w.heap.size + 1 + 1, 0, none⟩) n n, .slice a9 (j + 1) c9, .func (.yield yl) #[] #[]] 88 (0, 0))) := Lib.hid (by rw [heap_setCell_same _ _ _ _ _ _ HH9.out]; rfl)
        have HAE := Lib.hid (HA9.out.set w1.heap.size 2 (.slice a9 (j + 1) c9) (by omega))
        have HBE : Hid (Below w1.heap.size w1 (w9.setCell ⟨w1.heap.size, 2, none⟩ (.slice a9 (j + 1) c9))) := Lib.hid (HBL9.out.setCell (p := ⟨w1.heap.size, 2, none⟩) (Nat.le_refl _) _)
        have HME : Hid ((outs ++ [(⟨false, a7, k7, c7, goes l j (-1)⟩ : Sw)]).map Sw.arcs = (List.range (j + 1)).map (fun j => goes l j (-1))) := Lib.hid (by rw [List.map_append, HMP.out, List.range_succ, List.map_append]; rfl)
        go_wp2
        go_roundw
        case rel => exact ⟨j + 1, a9, c9, _, by omega, by go_num, HXE, HAE, HME, HBE⟩
        case measure => simp [intOf]; omega
      · go_simp
        refine hK.out _ _ (by first | (trivial) | ((try dsimp only); trivial)) (fun hHeld => ?_)
        clear hK K
        try simp only [Act.put, List.getElem_toArray, List.getElem_cons_succ, List.getElem_cons_zero, List.setIfInBounds_toArray, List.set_cons_succ, List.set_cons_zero]
        refine wpAnyH_ready (rs := [1, 4]) (by kernel_rfl) (by simp) ?_
        refine AllReadyH.cons rfl (fun K hK => ?_) (AllReadyH.cons rfl (fun K hK => ?_) AllReadyH.nil)
        · go_simp
          refine hK.out _ _ (by first | (trivial) | ((try dsimp only); trivial)) (fun hHeld => ?_)
          clear hK K
          try simp only [Act.put, List.getElem_toArray, List.getElem_cons_succ, List.getElem_cons_zero, List.setIfInBounds_toArray, List.set_cons_succ, List.set_cons_zero]
          refine wpAnyH_ready (rs := [4]) (by kernel_rfl) (by simp) ?_
          refine AllReadyH.cons rfl (fun K hK => ?_) AllReadyH.nil
          go_simp
          go_at_call 59
          refine (HAFT.out _ j wa j wc hlt (HW.out.trans (hDX.mono HW.out.size))).mono ?_
          rintro e w7 ⟨a7, k7, c7, rfl, hk7, hown7, hb7'⟩
          have hb7 : Below wr.heap.size wr w7 := hDX.trans hb7'
          have c27 := (HCX.out _ hb7).2
          have HO7 := Lib.hid hown7
          have HK7 := Lib.hid hk7
          clear hown7 hk7
          go_wp2_with fail
          refine hK.out _ _ (by first | (trivial) | ((try dsimp only); trivial)) (fun hHeld => ?_)
          clear hK K
          try simp only [Act.put, List.getElem_toArray, List.getElem_cons_succ, List.getElem_cons_zero, List.setIfInBounds_toArray, List.set_cons_succ, List.set_cons_zero]
          refine wpAnyH_ready (rs := [5]) (by kernel_rfl) (by simp) ?_
          refine AllReadyH.cons rfl (fun K hK => ?_) AllReadyH.nil
          refine step_build_slice (by rfl) (.tmp 21) a7 k7 c7 (by rfl) (by rfl) ?_
          intro gB wB hcB hbB'
          have hbB : Below wr.heap.size wr wB := hb7.trans (hbB'.mono hb7.size)
          have c2B := (HCX.out _ hbB).2
          have HOB := Lib.hid (ownsRow_below HO7.out hbB' (Nat.le_refl _))
          refine hK.out _ _ (by first | (trivial) | ((try dsimp only); trivial)) (fun hHeld => ?_)
          clear hK K
          try simp only [Act.put, List.getElem_toArray, List.getElem_cons_succ, List.getElem_cons_zero, List.setIfInBounds_toArray, List.set_cons_succ, List.set_cons_zero]
          refine wpAnyH_ready (rs := [6]) (by kernel_rfl) (by simp) ?_
          refine AllReadyH.cons rfl (fun K hK => ?_) AllReadyH.nil
          refine step_append_arcs (by rfl) (.tmp 18) (.tmp 22) (by rfl) (w1.heap.size + 1) (.slice wa j wc) j outs (by rfl) (HAL.out.below hbB).row gB ⟨false, a7, k7, c7, goes l j (-1)⟩ (by rfl) hcB (j + 1) rfl (by omega) (by have := hbB.size; omega) ?_
          intro a9 c9 w9 hrow9 hb9' hgr9 hnil9
          have h99 : w9.heap[w1.heap.size]? = _ := (hb9'.block w1.heap.size (by omega)).trans (HCX.out _ hbB).1
          have c29 : w9.cell? ⟨w1.heap.size, 2, none⟩ = some (.slice wa j wc) := (by rw [cell_of_obj h99]; rfl)
          have f29 : w9.frozen? ⟨w1.heap.size, 2, none⟩ = false := frozen_of_row w9 _ 2 _ _ h99
          have HA9 := Lib.hid ((HAL.out.below hbB).add ⟨false, a7, k7, c7, goes l j (-1)⟩ (own_mono HOB.out hsz) HGW.out HK7.out hrow9 hgr9 hnil9)
          have HH9 := Lib.hid h99
          have HBL9 : Hid (Below w1.heap.size w1 w9) := Lib.hid ((HW.out.trans (hbB.mono HW.out.size)).trans (hb9'.mono (by omega)))
          clear h99 hrow9 hb9' hgr9 hnil9
          refine hK.out _ _ (by first | (trivial) | ((try dsimp only); trivial)) (fun hHeld => ?_)
          clear hK K
          try simp only [Act.put, List.getElem_toArray, List.getElem_cons_succ, List.getElem_cons_zero, List.setIfInBounds_toArray, List.set_cons_succ, List.set_cons_zero]
          refine wpAnyH_take (i := 7) (v := ?v126) rfl (by kernel_rfl) (by kernel_rfl) (by kernel_rfl) (fun _ _ _ h => h) (Or.inl ⟨by rfl, ?h126⟩) (by assumption) ?r126
          case h126 => intro w hSw; (try dsimp only at hSw); go_simp; try with_reducible rfl
          simp only [Act.put, List.getElem_toArray, List.getElem_cons_succ, List.getElem_cons_zero, List.setIfInBounds_toArray, List.set_cons_succ, List.set_cons_zero]
          refine wpAnyH_ready (rs := [8]) (by kernel_rfl) (by simp) ?_
          refine AllReadyH.cons rfl (fun K hK => ?_) AllReadyH.nil
          go_simp
          refine hK.out _ _ (by first | (trivial) | ((try dsimp only); trivial)) (fun hHeld => ?_)
          clear hK K
          try simp only [Act.put, List.getElem_toArray, List.getElem_cons_succ, List.getElem_cons_zero, List.setIfInBounds_toArray, List.set_cons_succ, List.set_cons_zero]
          refine wpAnyH_done (by kernel_rfl) ?_ _
          clear hHeld
          have HXE : Hid ((w9.setCell ⟨w1.heap.size, 2, none⟩ (.slice a9 (j + 1) c9)).heap[w1.heap.size]? = some (.cells #[.slice a n cap, .slice (some ⟨w.heap.size + 1 + 1, 0, none⟩) n n, .slice a9 (j + 1) c9, .func (.yield yl) #[] #[]] 88 (0, 0))) := Lib.hid (by rw [heap_setCell_same _ _ _ _ _ _ HH9.out]; rfl)
          have HAE := Lib.hid (HA9.out.set w1.heap.size 2 (.slice a9 (j + 1) c9) (by omega))
          have HBE : Hid (Below w1.heap.size w1 (w9.setCell ⟨w1.heap.size, 2, none⟩ (.slice a9 (j + 1) c9))) := Lib.hid (HBL9.out.setCell (p := ⟨w1.heap.size, 2, none⟩) (Nat.le_refl _) _)
          have HME : Hid ((outs ++ [(⟨false, a7, k7, c7, goes l j (-1)⟩ : Sw)]).map Sw.arcs = (List.range (j + 1)).map (fun j => goes l j (-1))) := Lib.hid (by rw [List.map_append, HMP.out, List.range_succ, List.map_append]; rfl)
          go_wp2
          go_roundw
          case rel => exact ⟨j + 1, a9, c9, _, by omega, by go_num, HXE, HAE, HME, HBE⟩
          case measure => simp [intOf]; omega
        · go_simp
          go_at_call 59
          refine (HAFT.out _ j wa j wc hlt (HW.out.trans (hDX.mono HW.out.size))).mono ?_
          rintro e w7 ⟨a7, k7, c7, rfl, hk7, hown7, hb7'⟩
          have hb7 : Below wr.heap.size wr w7 := hDX.trans hb7'
          have c27 := (HCX.out _ hb7).2
          have HO7 := Lib.hid hown7
          have HK7 := Lib.hid hk7
          clear hown7 hk7
          go_wp2_with fail
          refine hK.out _ _ (by first | (trivial) | ((try dsimp only); trivial)) (fun hHeld => ?_)
          clear hK K
          try simp only [Act.put, List.getElem_toArray, List.getElem_cons_succ, List.getElem_cons_zero, List.setIfInBounds_toArray, List.set_cons_succ, List.set_cons_zero]
          refine wpAnyH_ready (rs := [1, 5]) (by kernel_rfl) (by simp) ?_
          refine AllReadyH.cons rfl (fun K hK => ?_) (AllReadyH.cons rfl (fun K hK => ?_) AllReadyH.nil)
          · go_simp
            refine hK.out _ _ (by first | (trivial) | ((try dsimp only); trivial)) (fun hHeld => ?_)
            clear hK K
            try simp only [Act.put, List.getElem_toArray, List.getElem_cons_succ, List.getElem_cons_zero, List.setIfInBounds_toArray, List.set_cons_succ, List.set_cons_zero]
            refine wpAnyH_ready (rs := [5]) (by kernel_rfl) (by simp) ?_
            refine AllReadyH.cons rfl (fun K hK => ?_) AllReadyH.nil
            refine step_build_slice (by rfl) (.tmp 21) a7 k7 c7 (by rfl) (by rfl) ?_
            intro gB wB hcB hbB'
            have hbB : Below wr.heap.size wr wB := hb7.trans (hbB'.mono hb7.size)
            have c2B := (HCX.out _ hbB).2
            have HOB := Lib.hid (ownsRow_below HO7.out hbB' (Nat.le_refl _))
            refine hK.out _ _ (by first | (trivial) | ((try dsimp only); trivial)) (fun hHeld => ?_)
            clear hK K
            try simp only [Act.put, List.getElem_toArray, List.getElem_cons_succ, List.getElem_cons_zero, List.setIfInBounds_toArray, List.set_cons_succ, List.set_cons_zero]
            refine wpAnyH_ready (rs := [6]) (by kernel_rfl) (by simp) ?_
            refine AllReadyH.cons rfl (fun K hK => ?_) AllReadyH.nil
            refine step_append_arcs (by rfl) (.tmp 18) (.tmp 22) (by rfl) (w1.heap.size + 1) (.slice wa j wc) j outs (by rfl) (HAL.out.below hbB).row gB ⟨false, a7, k7, c7, goes l j (-1)⟩ (by rfl) hcB (j + 1) rfl (by omega) (by have := hbB.size; omega) ?_
            intro a9 c9 w9 hrow9 hb9' hgr9 hnil9
            have h99 : w9.heap[w1.heap.size]? = _ := (hb9'.block w1.heap.size (by omega)).trans (HCX.out _ hbB).1
            have c29 : w9.cell? ⟨w1.heap.size, 2, none⟩ = some (.slice wa j wc) := (by rw [cell_of_obj h99]; rfl)
            have f29 : w9.frozen? ⟨w1.heap.size, 2, none⟩ = false := frozen_of_row w9 _ 2 _ _ h99
            have HA9 := Lib.hid ((HAL.out.below hbB).add ⟨false, a7, k7, c7, goes l j (-1)⟩ (own_mono HOB.out hsz) HGW.out HK7.out hrow9 hgr9 hnil9)
            have HH9 := Lib.hid h99
            have HBL9 : Hid (Below w1.heap.size w1 w9) := Lib.hid ((HW.out.trans (hbB.mono HW.out.size)).trans (hb9'.mono (by omega)))
            clear h99 hrow9 hb9' hgr9 hnil9
            refine hK.out _ _ (by first | (trivial) | ((try dsimp only); trivial)) (fun hHeld => ?_)
            clear hK K
            try simp only [Act.put, List.getElem_toArray, List.getElem_cons_succ, List.getElem_cons_zero, List.setIfInBounds_toArray, List.set_cons_succ, List.set_cons_zero]
            refine wpAnyH_take (i := 7) (v := ?v188) rfl (by kernel_rfl) (by kernel_rfl) (by kernel_rfl) (fun _ _ _ h => h) (Or.inl ⟨by rfl, ?h188⟩) (by assumption) ?r188
            case h188 => intro w hSw; (try dsimp only at hSw); go_simp; try with_reducible rfl
            simp only [Act.put, List.getElem_toArray, List.getElem_cons_succ, List.getElem_cons_zero, List.setIfInBounds_toArray, List.set_cons_succ, List.set_cons_zero]
            refine wpAnyH_ready (rs := [8]) (by kernel_rfl) (by simp) ?_
            refine AllReadyH.cons rfl (fun K hK => ?_) AllReadyH.nil
            go_simp
            refine hK.out _ _ (by first | (trivial) | ((try dsimp only); trivial)) (fun hHeld => ?_)
            clear hK K
            try simp only [Act.put, List.getElem_toArray, List.getElem_cons_succ, List.getElem_cons_zero, List.setIfInBounds_toArray, List.set_cons_succ, List.set_cons_zero]
            refine wpAnyH_done (by kernel_rfl) ?_ _
            clear hHeld
            have HXE : Hid ((w9.setCell ⟨w1.heap.size, 2, none⟩ (.slice a9 (j + 1) c9)).heap[w1.heap.size]? = some (.cells #[.slice a n cap, .slice (some ⟨w.heap.size + 1 + 1, 0, none⟩) n n, .slice a9 (j + 1) c9, .func (.yield yl) #[] #[]] 88 (0, 0))) := Lib.hid (by rw [heap_setCell_same _ _ _ _ _ _ HH9.out]; rfl)
            have HAE := Lib.hid (HA9.out.set w1.heap.size 2 (.slice a9 (j + 1) c9) (by omega))
            have HBE : Hid (Below w1.heap.size w1 (w9.setCell ⟨w1.heap.size, 2, none⟩ (.slice a9 (j + 1) c9))) := Lib.hid (HBL9.out.setCell (p := ⟨w1.heap.size, 2, none⟩) (Nat.le_refl _) _)
            have HME : Hid ((outs ++ [(⟨false, a7, k7, c7, goes l j (-1)⟩ : Sw)]).map Sw.arcs = (List.range (j + 1)).map (fun j => goes l j (-1))) := Lib.hid (by rw [List.map_append, HMP.out, List.range_succ, List.map_append]; rfl)
            go_wp2
            go_roundw
            case rel => exact ⟨j + 1, a9, c9, _, by omega, by go_num, HXE, HAE, HME, HBE⟩
            case measure => simp [intOf]; omega
          · refine step_build_slice (by rfl) (.tmp 21) a7 k7 c7 (by rfl) (by rfl) ?_
            intro gB wB hcB hbB'
            have hbB : Below wr.heap.size wr wB := hb7.trans (hbB'.mono hb7.size)
            have c2B := (HCX.out _ hbB).2
            have HOB := Lib.hid (ownsRow_below HO7.out hbB' (Nat.le_refl _))
            refine hK.out _ _ (by first | (trivial) | ((try dsimp only); trivial)) (fun hHeld => ?_)
            clear hK K
            try simp only [Act.put, List.getElem_toArray, List.getElem_cons_succ, List.getElem_cons_zero, List.setIfInBounds_toArray, List.set_cons_succ, List.set_cons_zero]
            refine wpAnyH_ready (rs := [1]) (by kernel_rfl) (by simp) ?_
            refine AllReadyH.cons rfl (fun K hK => ?_) AllReadyH.nil
            go_simp
            refine hK.out _ _ (by first | (trivial) | ((try dsimp only); trivial)) (fun hHeld => ?_)
            clear hK K
            try simp only [Act.put, List.getElem_toArray, List.getElem_cons_succ, List.getElem_cons_zero, List.setIfInBounds_toArray, List.set_cons_succ, List.set_cons_zero]
            refine wpAnyH_ready (rs := [6]) (by kernel_rfl) (by simp) ?_
            refine AllReadyH.cons rfl (fun K hK => ?_) AllReadyH.nil
            refine step_append_arcs (by rfl) (.tmp 18) (.tmp 22) (by rfl) (w1.heap.size + 1) (.slice wa j wc) j outs (by rfl) (HAL.out.below hbB).row gB ⟨false, a7, k7, c7, goes l j (-1)⟩ (by rfl) hcB (j + 1) rfl (by omega) (by have := hbB.size; omega) ?_
            intro a9 c9 w9 hrow9 hb9' hgr9 hnil9
            have h99 : w9.heap[w1.heap.size]? = _ := (hb9'.block w1.heap.size (by omega)).trans (HCX.out _ hbB).1
            have c29 : w9.cell? ⟨w1.heap.size, 2, none⟩ = some (.slice wa j wc) := (by rw [cell_of_obj h99]; rfl)
            have f29 : w9.frozen? ⟨w1.heap.size, 2, none⟩ = false := frozen_of_row w9 _ 2 _ _ h99
            have HA9 := Lib.hid ((HAL.out.below hbB).add ⟨false, a7, k7, c7, goes l j (-1)⟩ (own_mono HOB.out hsz) HGW.out HK7.out hrow9 hgr9 hnil9)
            have HH9 := Lib.hid h99
            have HBL9 : Hid (Below w1.heap.size w1 w9) := Lib.hid ((HW.out.trans (hbB.mono HW.out.size)).trans (hb9'.mono (by omega)))
            clear h99 hrow9 hb9' hgr9 hnil9
            refine hK.out _ _ (by first | (trivial) | ((try dsimp only); trivial)) (fun hHeld => ?_)
            clear hK K
            try simp only [Act.put, List.getElem_toArray, List.getElem_cons_succ, List.getElem_cons_zero, List.setIfInBounds_toArray, List.set_cons_succ, List.set_cons_zero]
            refine wpAnyH_take (i := 7) (v := ?v235) rfl (by kernel_rfl) (by kernel_rfl) (by kernel_rfl) (fun _ _ _ h => h) (Or.inl ⟨by rfl, ?h235⟩) (by assumption) ?r235
            case h235 => intro w hSw; (try dsimp only at hSw); go_simp; try with_reducible rfl
            simp only [Act.put, List.getElem_toArray, List.getElem_cons_succ, List.getElem_cons_zero, List.setIfInBounds_toArray, List.set_cons_succ, List.set_cons_zero]
            refine wpAnyH_ready (rs := [8]) (by kernel_rfl) (by simp) ?_
            refine AllReadyH.cons rfl (fun K hK => ?_) AllReadyH.nil
            go_simp
            refine hK.out _ _ (by first | (trivial) | ((try dsimp only); trivial)) (fun hHeld => ?_)
            clear hK K
            try simp only [Act.put, List.getElem_toArray, List.getElem_cons_succ, List.getElem_cons_zero, List.setIfInBounds_toArray, List.set_cons_succ, List.set_cons_zero]
            refine wpAnyH_done (by kernel_rfl) ?_ _
            clear hHeld
            have HXE : Hid ((w9.setCell ⟨w1.heap.size, 2, none⟩ (.slice a9 (j + 1) c9)).heap[w1.heap.size]? = some (.cells #[.slice a n cap, .slice (some ⟨w.heap.size + 1 + 1, 0, none⟩) n n, .slice a9 (j + 1) c9, .func (.yield yl) #[] #[]] 88 (0, 0))) := Lib.hid (by rw [heap_setCell_same _ _ _ _ _ _ HH9.out]; rfl)
            have HAE := Lib.hid (HA9.out.set w1.heap.size 2 (.slice a9 (j + 1) c9) (by omega))
            have HBE : Hid (Below w1.heap.size w1 (w9.setCell ⟨w1.heap.size, 2, none⟩ (.slice a9 (j + 1) c9))) := Lib.hid (HBL9.out.setCell (p := ⟨w1.heap.size, 2, none⟩) (Nat.le_refl _) _)
            have HME : Hid ((outs ++ [(⟨false, a7, k7, c7, goes l j (-1)⟩ : Sw)]).map Sw.arcs = (List.range (j + 1)).map (fun j => goes l j (-1))) := Lib.hid (by rw [List.map_append, HMP.out, List.range_succ, List.map_append]; rfl)
            go_wp2
            go_roundw
            case rel => exact ⟨j + 1, a9, c9, _, by omega, by go_num, HXE, HAE, HME, HBE⟩
            case measure => simp [intOf]; omega
    · have hjn : j = n := by omega
      have HR0 : Hid (wr.heap[w.heap.size]? = some (.cells #[.slice none 0 0, .slice none 0 0, .slice none 0 0, .nilFunc] 88 (0, 0))) := by
        show _ = _
        rw [HW.out.block w.heap.size (by omega)]; exact HRZ.out
      have d0 : wr.cell? ⟨w1.heap.size, 0, none⟩ = some (.slice a n cap) := by rw [cell_of_obj HBX.out]; rfl
      have d1 : wr.cell? ⟨w1.heap.size, 1, none⟩ = some (.slice (some ⟨w.heap.size + 1 + 1, 0, none⟩) n n) := by rw [cell_of_obj HBX.out]; rfl
      have d2 : wr.cell? ⟨w1.heap.size, 2, none⟩ = some (.slice wa j wc) := by rw [cell_of_obj HBX.out]; rfl
      have d3 : wr.cell? ⟨w1.heap.size, 3, none⟩ = some (.func (.yield yl) #[] #[]) := by rw [cell_of_obj HBX.out]; rfl
      have e0 : wr.cell? ⟨w.heap.size, 0, none⟩ = some (.slice none 0 0) := by rw [cell_of_obj HR0.out]; rfl
      have e1 : wr.cell? ⟨w.heap.size, 1, none⟩ = some (.slice none 0 0) := by rw [cell_of_obj HR0.out]; rfl
      have e2 : wr.cell? ⟨w.heap.size, 2, none⟩ = some (.slice none 0 0) := by rw [cell_of_obj HR0.out]; rfl
      have e3 : wr.cell? ⟨w.heap.size, 3, none⟩ = some .nilFunc := by rw [cell_of_obj HR0.out]; rfl
      have f1 : ∀ j, wr.frozen? ⟨w.heap.size, j, none⟩ = false := fun j => frozen_of_row wr _ j _ _ HR0.out
      subst hjn
      have hlt' : ¬ (j : Int) < (j : Int) := by omega
      have HR : Hid (((((wr.setCell ⟨w.heap.size, 0, none⟩ (.slice a j cap)).setCell ⟨w.heap.size, 1, none⟩ (.slice (some ⟨w.heap.size + 1 + 1, 0, none⟩) j j)).setCell ⟨w.heap.size, 2, none⟩ (.slice wa j wc)).setCell ⟨w.heap.size, 3, none⟩ (.func (.yield yl) #[] #[])).heap[w.heap.size]? = some (.cells #[.slice a j cap, .slice (some ⟨w.heap.size + 1 + 1, 0, none⟩) j j, .slice wa j wc, .func (.yield yl) #[] #[]] 88 (0, 0))) := Lib.hid (by
        rw [heap_setCell_same _ _ _ _ _ _ (heap_setCell_same _ _ _ _ _ _ (heap_setCell_same _ _ _ _ _ _ (heap_setCell_same _ _ _ _ _ _ HR0.out)))]; rfl)
      have HAE := Lib.hid ((((((HAL.out.set w.heap.size 0 (.slice a j cap) (by omega)).set w.heap.size 1 (.slice (some ⟨w.heap.size + 1 + 1, 0, none⟩) j j) (by omega)).set w.heap.size 2 (.slice wa j wc) (by omega)).set w.heap.size 3 (.func (.yield yl) #[] #[]) (by omega))).lower (B' := w.heap.size) (by omega))
      have HSE := Lib.hid (Sl.set4 ((Sl.of_owns HOD.out HDW.out HDL.out).below HW.out (Nat.le_refl _)) w.heap.size (.slice a j cap) (.slice (some ⟨w.heap.size + 1 + 1, 0, none⟩) j j) (.slice wa j wc) (.func (.yield yl) #[] #[]) (by omega))
      have HBE := Lib.hid (((((((HB0 _).out.trans (HBW.out.mono (by simp))).trans (HW.out.mono (by omega))).setCell (p := ⟨w.heap.size, 0, none⟩) (Nat.le_refl _) (.slice a j cap)).setCell (p := ⟨w.heap.size, 1, none⟩) (Nat.le_refl _) (.slice (some ⟨w.heap.size + 1 + 1, 0, none⟩) j j)).setCell (p := ⟨w.heap.size, 2, none⟩) (Nat.le_refl _) (.slice wa j wc)).setCell (p := ⟨w.heap.size, 3, none⟩) (Nat.le_refl _) (.func (.yield yl) #[] #[]))
      go_wp2
      refine bodyPost_ret (results_cell_row (by rfl) _ _ w.heap.size 88 _ (0, 0) _ (by rfl) HR.out Try.underlying88 (by rfl) (by kernel_rfl)) rfl ?_
      exact ⟨_, wa, _, wc, rfl, ds, HSE.out, (fun b off e => by simp only [Option.some.injEq, Addr.mk.injEq] at e; omega), (fun j hj => by have := HDV.out j hj; rwa [List.getD_eq_getElem?_getD] at this), outs, HAE.out, HMP.out, HBE.out⟩
end Go.Proofs.Ytimjdlbhbiklgaa
