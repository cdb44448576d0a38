/- Used by the law. -/
import Derived.Test.YtimjdlbhbiklgaaPackS
import Derived.Test.YtimjdlbhbiklgaaWalkBack
import Derived.Test.YtimjdlbhbiklgaaWalkAlong
namespace Go.Proofs.Ytimjdlbhbiklgaa
open Go.RowKit Go.Shelf Tri Wlk
attribute [local go_sem] Oper.semAt_some
attribute [local go_sem] run_store_func

theorem Sl.cut {w : World} {b : Option Addr} {m cap : Nat} {zs : List Int} (h : Sl .i64 w b m cap zs) {k : Nat} (hk : k ≤ m) : Sl .i64 w b k cap (zs.take k) := by
  obtain ⟨h1, h2, h3, h4, h5⟩ := h
  refine ⟨by rw [List.length_take]; omega, by omega, h3, fun z hz => h4 z (List.mem_of_mem_take hz), ?_⟩
  rcases h5 with h5 | ⟨g, off, ha, hc⟩
  · exact .inl (by omega)
  · exact .inr ⟨g, off, ha, fun i hi => by rw [hc i (by omega)]; simp [hi]⟩
set_option maxRecDepth 100000 in
theorem step_make_room {F : Fence} {n : Nat} {w : World} {ops : Array Oper} {o : Oper} {act : Act} {K : Act → World → Prop} {Q : Exit → Act → World → Prop} {E : Prop} (hw : Region.wanted o (yielded ops act.tmps) = true) (x y : Operand) (N : Nat) (hN : N ≤ 1000000)
    (ho : o.op = .makeSlice 23 x y) (hx : act.eval x = .int .i64 0) (hy : act.eval y = .int .i64 (N : Int)) (h : ∀ g w', g = w.heap.size → Room g N [] w' → (∀ S, Keep S w w') → K (act.put o.dst (.slice (some ⟨g, 0, none⟩) 0 N)) w') :
    if Region.wanted o (yielded ops act.tmps) = true then o.wpIn F n Try.prog act w K Q else E := by
  rw [if_pos hw]
  obtain ⟨i0, hi, hz0, hz1, hz2⟩ := info_parts info_int
  obtain ⟨w', hrun, r1, r2⟩ := run_make_own (P := Try.prog) w w.heap.size 23 3 i0 (.int .i64 0) 1 Try.underlying23 hi hz0 hz1 .i64 .i64 N (by rw [hz2]; omega) (by unfold maxLen; omega) (Nat.le_refl _)
  unfold Oper.wpIn
  refine ⟨by simp [Oper.about, ho], ?_⟩
  rw [Oper.semAt_plain F _ _ (by rw [ho]; intro c hc'; cases hc')]
  simp [execOp, ho, hx, hy, hrun, Result.andThen]
  exact h _ w' rfl ⟨r1, by simp⟩ (fun S => Keep.of_grownBy r2 fun r e => by cases e)
set_option maxRecDepth 100000 in
theorem step_alloc_box {F : Fence} {n : Nat} {w : World} {ops : Array Oper} {o : Oper} {act : Act} {K : Act → World → Prop} {Q : Exit → Act → World → Prop} {E : Prop} (hw : Region.wanted o (yielded ops act.tmps) = true)
    (ho : o.op = .alloc 23) (h : ∀ g w', g = w.heap.size → w'.heap[g]? = some (.cells #[.slice none 0 0] 23 (0, 0)) → (∀ S, Keep S w w') → K (act.put o.dst (.pointer (some ⟨g, 0, none⟩))) w') :
    if Region.wanted o (yielded ops act.tmps) = true then o.wpIn F n Try.prog act w K Q else E := by
  rw [if_pos hw]
  unfold Oper.wpIn
  refine ⟨by simp [Oper.about, ho], ?_⟩
  rw [Oper.semAt_plain F _ _ (by rw [ho]; intro c hc; cases hc)]
  simp only [execOp, ho]
  go_simp
  exact h _ _ rfl (heap_alloc_new w _) (fun S => Keep.alloc S w _)
set_option maxRecDepth 100000 in
theorem step_append_word {F : Fence} {m : Nat} {w : World} {ops : Array Oper} {o : Oper} {act : Act} {K : Act → World → Prop} {Q : Exit → Act → World → Prop} {E : Prop} (hw : Region.wanted o (yielded ops act.tmps) = true) (s x : Operand)
    (ho : o.op = .call { callee := .builtin .append, args := #[s, x], argTypes := #[23, 23] }) (R n : Nat) (hs : act.eval s = .slice (some ⟨R, 0, none⟩) 0 n) (hroom : Room R n [] w)
    (b : Option Addr) (k c : Nat) (ts : List Int) (hx : act.eval x = .slice b k c) (ht : Sl .i64 w b k c ts) (hnil : b = none → c = 0) (hfit : k ≤ n)
    (h : ∀ w', Room R n ts w' → Keep (fun b => b ≠ R) w w' → K (act.put o.dst (.slice (some ⟨R, 0, none⟩) k n)) w') :
    if Region.wanted o (yielded ops act.tmps) = true then o.wpIn F m Try.prog act w K Q else E := by
  rw [if_pos hw]
  obtain ⟨i0, hi, hz0, hz1, hz2⟩ := info_parts info_int
  have hlen := ht.1
  cases b with
  | none =>
    obtain rfl := hnil rfl
    obtain rfl : k = 0 := by have := ht.2.1; omega
    obtain rfl : ts = [] := List.eq_nil_of_length_eq_zero hlen
    have hrun := run_append_nil_any (P := Try.prog) (w := w) R 23 o.type 3 i0 1 0 Try.underlying23 hi _ 0 [] hroom.1
    unfold Oper.wpIn
    refine ⟨?_, ?_⟩
    · simp [Oper.about, ho, resolve, Target.leads, Sem.run_pure]
    · rw [Oper.semAt_plain F _ _ (by rw [ho]; intro c hc'; cases hc')]
      simp [execOp, ho, resolve, invoke, builtin, hs, hx, hrun, Result.andThen]
      exact h w hroom (Keep.refl _ _)
  | some ad =>
    obtain ⟨w', hrun, r1, r2⟩ := run_append_fits (P := Try.prog) w R 23 o.type 3 i0 1 Try.underlying23 hi hz1 R 0 n [] hroom.1 ad k c (i64s ts) (by simp [i64s, hlen]) (fun j u hj => by
      have hjl : j < ts.length := by
        rcases Nat.lt_or_ge j ts.length with hlt | hge
        · exact hlt
        · simp [i64s, List.getElem?_eq_none hge] at hj
      obtain ⟨g, off, e, _, hc⟩ := ht.at (by omega)
      simp only [Option.some.injEq] at e
      subst e
      have := hc j (by omega)
      rw [show (⟨g, off, none⟩ : Addr).add j = ⟨g, off + j, none⟩ from by simp [Addr.add], this]
      simp [i64s, hjl] at hj
      rw [← hj]; simp [hjl]) (ints_oneCell .i64 ts) (by omega)
    unfold Oper.wpIn
    refine ⟨?_, ?_⟩
    · simp [Oper.about, ho, resolve, Target.leads, Sem.run_pure]
    · rw [Oper.semAt_plain F _ _ (by rw [ho]; intro c hc'; cases hc')]
      simp only [Nat.zero_add, List.nil_append] at hrun r1
      simp [execOp, ho, resolve, invoke, builtin, hs, hx, hrun, Result.andThen]
      exact h w' ⟨by rw [hlen]; exact r1, ht.2.2.2.1⟩ (Keep.of_grownBy r2 fun r e => by simp only [Option.some.injEq] at e; subst e; exact fun h => h rfl)

theorem along_ge {l : List St} (hc : check l = true) : ∀ (w : List Int) {i : Nat}, i < l.length → ∀ k, k < (Wlk.along l (i : Int) w).length → (i : Int) + k ≤ (Wlk.along l (i : Int) w).getD k 0
  | [], i, hi, k, hk => by
    unfold Wlk.along at hk ⊢
    obtain rfl : k = 0 := by simpa using hk
    simp
  | s :: w, i, hi, k, hk => by
    unfold Wlk.along at hk ⊢
    cases k with
    | zero => simp
    | succ k =>
      rw [List.getD_cons_succ]
      split at hk
      · rename_i hs
        rw [if_pos hs]
        have := step_lt hc hi hs
        obtain ⟨u, hu⟩ : ∃ u : Nat, (Tri.step l (i : Int) s).1 = (u : Int) := ⟨(Tri.step l (i : Int) s).1.toNat, by omega⟩
        rw [hu] at hk this ⊢
        have := along_ge hc w (i := u) (by omega) k (by simpa using hk)
        omega
      · simp at hk
theorem tel_made {l : List St} {B : Nat} {wn wr : World} {wa : Option Addr} {n wc : Nat} {outs : List Sw} (h : Al B wn wa n wc outs) (hmp : outs.map Sw.arcs = (List.range n).map fun j => goes l j (-1)) (hpos : 0 < n) (sb so : Nat)
    (hfin : ∀ i, i < n → wr.cell? ⟨sb, so + i * 2, none⟩ = some (.bool (l.getD i St.no).final)) (K : Nat → Prop) (hKs : K sb) (hK : ∀ k, B ≤ k → k < wn.heap.size → K k) (hkeep : Keep (fun k => B ≤ k ∧ k < wn.heap.size) wn wr) :
    ∃ wb, wa = some ⟨wb, 0, none⟩ ∧ n ≤ wc ∧ wc ≤ maxLen ∧ Tel K l n sb so wb 0 wr := by
  obtain ⟨wb, cap', cur, e, hB, hh, h1, h2, _⟩ := h.row.2.resolve_left (by rintro ⟨_, h⟩; omega)
  simp only [Value.slice.injEq, true_and] at e
  obtain ⟨rfl, rfl⟩ := e
  have hwb := (Array.getElem?_eq_some_iff.1 hh).1
  refine ⟨wb, rfl, h1, h2, hfin, fun i hi => ?_, hKs, hK wb hB hwb⟩
  have hlen := h.len
  have hx : outs[i]'(by omega) ∈ outs := List.getElem_mem _
  obtain ⟨x, hxe⟩ : ∃ x, x = outs[i]'(by omega) := ⟨_, rfl⟩
  rw [← hxe] at hx
  have harc : x.arcs = goes l i (-1) := by
    have := congrArg (fun t => t[i]?) hmp
    simp only [List.getElem?_map, List.getElem?_eq_getElem (show i < outs.length by omega), List.getElem?_range hi, Option.map_some, ← hxe] at this
    simpa using this
  have hown := h.own x hx
  have hars := Ars.of_owns hown (h.wfs x hx) (h.lens x hx)
  refine ⟨x.a, x.n, x.cap, ?_, hars.2.1, hars.2.2.1, ?_, ?_⟩
  · refine hkeep.cell ?_ ⟨hB, hwb⟩
    rw [Nat.zero_add, h.row.cellAt i (by omega)]
    simp [show i < outs.length by omega, ← hxe, Sw.s]
  · rw [← harc]; exact h.lens x hx
  · rcases hars.2.2.2.2 with h0 | ⟨b, off, ha, hc⟩
    · exact .inl h0
    · by_cases hz : x.n = 0
      · exact .inl hz
      · obtain ⟨g, cap2, cur2, e2, hB2, hh2, _⟩ := hown.2.resolve_left (by rintro ⟨_, h⟩; exact hz h)
        have hbg : b = g := by
          simp only [Sw.s, Value.slice.injEq] at e2
          rw [ha] at e2
          have := e2.1
          simp only [Option.some.injEq, Addr.mk.injEq] at this
          exact this.1
        subst hbg
        have hb2 := (Array.getElem?_eq_some_iff.1 hh2).1
        refine .inr ⟨b, off, ha, hK b hB2 hb2, fun i hi => ?_⟩
        rw [← harc]
        exact ⟨hkeep.cell (hc i hi).1 ⟨hB2, hb2⟩, hkeep.cell (hc i hi).2 ⟨hB2, hb2⟩⟩
theorem Tel.mono {K K' : Nat → Prop} {l : List St} {n sb so wb wo : Nat} {W : World} (h : Tel K l n sb so wb wo W) (hk : ∀ k, K k → K' k) : Tel K' l n sb so wb wo W :=
  ⟨h.fin, fun i hi => by
    obtain ⟨a, k, c, h1, h2, h3, h4, h5⟩ := h.way i hi
    refine ⟨a, k, c, h1, h2, h3, h4, ?_⟩
    rcases h5 with h5 | ⟨b, off, ha, hb, hc⟩
    · exact .inl h5
    · exact .inr ⟨b, off, ha, hk b hb, hc⟩, hk _ h.ks, hk _ h.kw⟩
def LoopI (J : Inv3) (l : List St) (zs : List Int) (O : Nat → Prop) (R len j0 m : Nat) (wr : World) (k : Nat) (U : Nat → Prop) (X : World) : Prop :=
  ∃ (O1 : Nat → Prop) (preJ : List Wd) (q : Nat), (∀ k, U k ↔ O1 k ∨ k = R) ∧ nums preJ = told_at_ l zs (j0 - k) ∧ J preJ O1 X ∧ Keep (fun k => ¬ O k ∧ k ≠ R) wr X ∧ (∀ k, O1 k → O k ∨ wr.heap.size ≤ k ∧ k < X.heap.size) ∧ Room R len (zs.take q) X ∧ j0 - k ≤ q + 1 ∧ q ≤ m
theorem loopI_keep {J : Inv3} {l : List St} {zs : List Int} {O : Nat → Prop} {R len j0 m : Nat} {wr : World} {k : Nat} {U : Nat → Prop} {X X' : World} {base base' : Nat} (hJ : Stable base J) (hb : base ≤ base') (hw : wr.heap.size ≤ base') (hR : R < base') (h : LoopI J l zs O R len j0 m wr k U X) (hk : Keep (fun k => k < base' ∨ U k) X X') : LoopI J l zs O R len j0 m wr k U X' := by
  obtain ⟨O1, preJ, q, h1, h2, h3, h4, h5, h6, h7, h8⟩ := h
  refine ⟨O1, preJ, q, h1, h2, hJ _ _ _ _ h3 (hk.mono fun k _ h => h.elim (fun h => .inl (by omega)) (fun h => .inr ((h1 k).2 (.inl h)))), h4.trans' hk fun k hk' h => ⟨h, .inl (by omega)⟩, fun k h => (h5 k h).imp id fun h => ⟨h.1, Nat.lt_of_lt_of_le h.2 hk.size⟩, h6.keep hk (.inl hR), h7, h8⟩
def LoopX (Jx : Inv3) (c : Code) (U : Nat → Prop) (X : World) : Prop := c = .ret ∧ ∃ (O1 : Nat → Prop) (preX : List Wd), (∀ k, O1 k → U k) ∧ Jx preX O1 X
theorem loopX_keep {Jx : Inv3} {c : Code} {U : Nat → Prop} {X X' : World} {base base' : Nat} (hJ : Stable base Jx) (hb : base ≤ base') (h : LoopX Jx c U X) (hk : Keep (fun k => k < base' ∨ U k) X X') : LoopX Jx c U X' := by
  obtain ⟨hc, O1, preX, h1, h2⟩ := h
  exact ⟨hc, O1, preX, h1, hJ _ _ _ _ h2 (hk.mono fun k _ h => h.elim (fun h => .inl (by omega)) (fun h => .inr (h1 k h)))⟩
def SeqAt (len y : Nat) (zs : List Int) (wl : World) (R rb : Nat) (wr : World) : Prop :=
  wl.heap.size ≤ R ∧ wl.heap.size ≤ rb ∧ R ≠ rb ∧ Room R len (zs.take y) wr ∧ wr.heap[rb]? = some (.cells #[.slice (some ⟨R, 0, none⟩) y len] 23 (0, 0)) ∧ Below wl.heap.size wl wr

set_option maxRecDepth 100000 in
set_option maxHeartbeats 12800000 in
theorem seq_iter (F : Fence) (hF : F = Fence.wide) (n : Nat) {l : List St} (hc : check l = true) (a b : Option Addr) (len cap m cap2 : Nat) (xs : List Sw) (zs : List Int) (W0 w : World) (hx : Ss W0 a len cap xs) (hxs : sts xs = l) (hz : Sl .i64 W0 b m cap2 zs) (hnil : b = none → cap2 = 0) (B1 B2 : Nat)
    (Rd : Nat → Prop) (hR0 : ∀ k, k < W0.heap.size → Rd k) (hR1 : Rd B1) (hR2 : Rd B2) (hRw : ∀ k, Rd k → k < w.heap.size) (hb : Below W0.heap.size W0 w) (c1 : w.cell? ⟨B1, 0, none⟩ = some (.slice a len cap)) (c2 : w.cell? ⟨B2, 0, none⟩ = some (.slice b m cap2)) :
    IterR F n Try.prog 54 #[.pointer (some ⟨B1, 0, none⟩), .pointer (some ⟨B2, 0, none⟩)] (fun x : Wd => #[x.v]) Rd (fun p => nums p <+: toldG l 0 zs) WdAt (fun p => nums p = toldG l 0 zs) (fun _ => True) (toldG l 0 zs).length w := by
  intro yl J Jx O W hW hO hJ hJx hY h0
  have hfn : ∀ f, F.fn f := by subst hF; exact fun _ => trivial
  have hro : F.round = none := by subst hF; rfl
  have hd : F.depth = none := by subst hF; rfl
  have hlen : l.length = len := by rw [← hxs, sts_length]; exact hx.1
  have hsz := check_size hc
  have hl6 : len ≤ 6001 := by omega
  obtain ⟨sb, so, rfl, hsb0, hcs0⟩ := hx.at (by omega)
  have HFIN : Hid (∀ i, i < len → W0.cell? ⟨sb, so + i * 2, none⟩ = some (.bool (l.getD i St.no).final)) := Lib.hid fun i hi => by
    rw [← hxs, sts_at]; exact (hcs0 i hi).1
  clear hcs0
  have HLE := Lib.hid hlen
  have hcp := hx.2.1
  have hcm := hx.2.2.1
  have hmc := hz.2.1
  have hmm := hz.2.2.1
  unfold maxLen at hcm hmm
  have bW : Below W0.heap.size W0 W := hb.trans (hW.below hb.size hR0)
  have d1 := hW.cell c1 hR1
  have d2 := hW.cell c2 hR2
  have hzW := bW.size
  have hB1 : B1 < W.heap.size := cell_lt d1
  have hB2 : B2 < W.heap.size := cell_lt d2
  have HX := Lib.hid hx
  have HZ := Lib.hid hz
  have HXS := Lib.hid hxs
  have HZL : Hid (zs.length = m) := Lib.hid hz.1
  have HNT : Hid (∀ (k : Nat) (X : World), Ss X (some ⟨sb, so, none⟩) len cap xs → CallsIn F k Try.prog 55 #[.slice (some ⟨sb, so, none⟩) len cap, .func (.yield yl) #[] #[]] X fun e w' => ∃ (da wa : Option Addr) (dc wc : Nat) (ds : List Int) (outs : List Sw), e = .returned (.agg #[.slice (some ⟨sb, so, none⟩) len cap, .slice da len dc, .slice wa len wc, .func (.yield yl) #[] #[]]) ∧ Sl .i64 w' da len dc ds ∧ (∀ b off, da = some ⟨b, off, none⟩ → X.heap.size ≤ b) ∧ (∀ j, j < len → ds.getD j 0 = dp (wds l j)) ∧ Al X.heap.size w' wa len wc outs ∧ outs.map Sw.arcs = (List.range len).map (fun j => goes l j (-1)) ∧ Below X.heap.size X w') := Lib.hid fun k X h => by subst hF; exact callsIn_wide.2 (newTeller_is hc (some ⟨sb, so, none⟩) len cap yl xs X h hxs)
  have HAL : Hid (∀ (k : Nat) (X : World), Ss X (some ⟨sb, so, none⟩) len cap xs → Sl .i64 X b m cap2 zs → CallsIn F k Try.prog 35 #[.slice (some ⟨sb, so, none⟩) len cap, .slice b m cap2] X fun e w' => ∃ a' k c', e = .returned (.slice a' k c') ∧ (Wlk.along l 0 zs).length = k ∧ w'.ownsRow X.heap.size 3 1 (.slice a' k c') k (i64s (Wlk.along l 0 zs)) ∧ Below X.heap.size X w') := Lib.hid fun k X h h' => by subst hF; exact callsIn_wide.2 (along_is hc (some ⟨sb, so, none⟩) b len cap m cap2 xs zs X h hxs h')
  have HRW := Lib.hid (fun k (hk : Rd k) => Nat.lt_of_lt_of_le (hRw k hk) hW.size)
  have HAFT : Hid (∀ (k u : Nat) (s : Int) (da wa : Option Addr) (dc wc : Nat) (ds : List Int) (X : World), u < len → Ss X (some ⟨sb, so, none⟩) len cap xs → Sl .i64 X da len dc ds → (∀ j, j < len → ds.getD j 0 = dp (wds l j)) → CallsIn F k Try.prog 59 #[.agg #[.slice (some ⟨sb, so, none⟩) len cap, .slice da len dc, .slice wa len wc, .func (.yield yl) #[] #[]], .int .i64 (u : Int), .int .i64 s] X
      fun e w' => ∃ aa ak ac, e = .returned (.slice aa ak ac) ∧ (goes l u s).length = ak ∧ w'.ownsRow X.heap.size 59 2 (.slice aa ak ac) ak (acells (goes l u s)) ∧ Below X.heap.size X w') := Lib.hid fun k u s da wa dc wc ds X hu h1 h2 h3 => by
    subst hF
    refine callsIn_wide.2 ((after_is hc u (by omega) s xs hxs (some ⟨sb, so, none⟩) da wa len cap len dc len wc yl ds X h1 h2 hlen.symm (fun j hj => h3 j (by omega))).mono ?_)
    rintro e w' ⟨a', c', rfl, g1, g2⟩
    exact ⟨a', _, c', rfl, rfl, g1, g2⟩
  have HBW := Lib.hid bW
  have HCC : Hid (∀ X, Below W.heap.size W X → X.cell? ⟨B1, 0, none⟩ = some (.slice (some ⟨sb, so, none⟩) len cap) ∧ X.cell? ⟨B2, 0, none⟩ = some (.slice b m cap2)) := Lib.hid fun X h => ⟨by rw [h.cell (p := ⟨B1, 0, none⟩) hB1]; exact d1, by rw [h.cell (p := ⟨B2, 0, none⟩) hB2]; exact d2⟩
  have HO := Lib.hid hO
  have HJ := Lib.hid hJ
  have HJX := Lib.hid hJx
  have HY := Lib.hid hY
  have H0 := Lib.hid h0
  have HYD : Hid (∀ (m : Nat) (pre : List Wd) (x : Wd) (O : Nat → Prop) (W1 : World), nums (pre ++ [x]) <+: toldG l 0 zs → WdAt x W1 → J pre O W1 → YieldAt F m Try.prog yl #[x.v] W1 (AnswersR J Jx (pre ++ [x]) O W1)) := Lib.hid fun m pre x O W1 h1 h2 h3 => Yield.anyDepth hd m (hY pre x O W1 h1 h2 h3 (by have := h1.length_le; rw [nums_length, List.length_append, List.length_singleton] at this; omega))
  have hmx : Try.prog.follows .mixedOrders = true := by kernel_rfl
  have HC := Lib.hid hc
  clear hF hx hz hxs hb c1 c2 hW hO hJ hJx hY h0 bW hRw hc
  refine callsIn_of_wp_marks Try.func54 rfl (hfn _) ?_ hro
  simp only [Try.ntmps54, List.size_toArray, List.length_cons, List.length_nil, Nat.reduceAdd, Nat.reduceSub, Array.replicate_succ, Array.replicate_zero, List.push_toArray, List.append_toArray, List.nil_append, List.cons_append]
  gi_wp2_with (first
    | (gi_at_call 55; refine (HNT.out _ _ (HX.out.below HBW.out (Nat.le_refl _))).mono ?_; rintro e wn ⟨da, wa, dc, wc, ds, outs, rfl, hds, hdn, hdv, hal, hmp, hbn⟩; have HDN := Lib.hid hdn; clear hdn; have HDS := Lib.hid hds; have HDV := Lib.hid hdv; have HOU := Lib.hid hal; have HMP := Lib.hid hmp; have HBN := Lib.hid hbn; clear hds hdv hal hmp hbn; have e1 := (HCC.out _ (HBN.out.alloc HBN.out.size (.cells #[.slice (some ⟨sb, so, none⟩) len cap, .slice da len dc, .slice wa len wc, .func (.yield yl) #[] #[]] 88))).1; have e2 := (HCC.out _ (HBN.out.alloc HBN.out.size (.cells #[.slice (some ⟨sb, so, none⟩) len cap, .slice da len dc, .slice wa len wc, .func (.yield yl) #[] #[]] 88))).2)
    | (gi_at_call 35; refine (HAL.out _ _ (HX.out.below (HBW.out.trans ((HBN.out.alloc HBN.out.size _).mono hzW)) (Nat.le_refl _)) (HZ.out.below (HBW.out.trans ((HBN.out.alloc HBN.out.size _).mono hzW)) (Nat.le_refl _))).mono ?_; rintro e wl ⟨ya, yk, yc, rfl, hyk, hyo, hbl⟩; have HYK := Lib.hid hyk; have HYO := Lib.hid hyo; have HBL := Lib.hid hbl; clear hyk hyo hbl))
  rename_i Kr hKr
  obtain ⟨y, rfl⟩ : ∃ y, yk = y + 1 := ⟨yk - 1, by have := along_pos l 0 zs; have := HYK.out; omega⟩
  have hym : y ≤ m := by
    have h1 := HYK.out
    have h2 := along_len l zs 0
    have h3 := HZL.out
    cases hwk : walk l 0 zs with
    | none => have := h2.2 hwk; omega
    | some t => have := (h2.1 t hwk).1; omega
  have hyl : y < len := by
    have h1 := along_ge HC.out zs (i := 0) (by omega) y (by rw [Int.natCast_zero, HYK.out]; omega)
    have h2 := (along_at HC.out zs (i := 0) (by omega) y (by rw [Int.natCast_zero, HYK.out]; omega)).2
    omega
  have hb2 : Below W.heap.size W wl := (HBN.out.alloc HBN.out.size _).trans (HBL.out.mono (by have := HBN.out.size; simp; omega))
  have HB2 := Lib.hid hb2
  have hrest : ∀ (R rb : Nat) (wr : World), SeqAt len y zs wl R rb wr → Kr { tmps := #[.func (.yield yl) #[] #[], .pointer (some ⟨B1, 0, none⟩), .pointer (some ⟨B2, 0, none⟩), undef, .pointer (some ⟨wn.heap.size, 0, none⟩), .slice ya (y + 1) yc, .pointer (some ⟨rb, 0, none⟩), undef, undef, .slice (some ⟨sb, so, none⟩) len cap, .func (.yield yl) #[] #[], .agg #[.slice (some ⟨sb, so, none⟩) len cap, .slice da len dc, .slice wa len wc, .func (.yield yl) #[] #[]], .slice (some ⟨sb, so, none⟩) len cap, .slice b m cap2, .slice ya (y + 1) yc,
      .slice (some ⟨sb, so, none⟩) len cap, .int .i64 (len : Int), .slice (some ⟨R, 0, none⟩) 0 len, .slice b m cap2, .slice ya (y + 1) yc, .int .i64 ((y : Int) + 1), .int .i64 (y : Int), .slice b y cap2, .slice (some ⟨R, 0, none⟩) y len, undef, undef, undef, undef, undef, undef, undef, undef, undef, undef, undef, undef, undef, undef, undef, undef, undef, undef, undef, undef, undef, undef, undef, undef, undef, undef, undef, undef, undef, undef, undef, undef, undef, undef, undef, undef, undef, undef, undef], defers := [] } wr := by
    rintro R rb wr ⟨q1, q2, q3, q4, q5, q6⟩
    refine hKr _ _ ?_
    clear hKr
    have hbr : Below W.heap.size W wr := HB2.out.trans (q6.mono HB2.out.size)
    have hzr := hbr.size
    have hTB : wr.heap[wn.heap.size]? = some (.cells #[.slice (some ⟨sb, so, none⟩) len cap, .slice da len dc, .slice wa len wc, .func (.yield yl) #[] #[]] 88 (0, 0)) := by
      have h1 := heap_alloc_new wn (.cells #[.slice (some ⟨sb, so, none⟩) len cap, .slice da len dc, .slice wa len wc, .func (.yield yl) #[] #[]] 88)
      have h2 := (HBL.out.block wn.heap.size (by simp)).trans h1
      exact (q6.block wn.heap.size (Array.getElem?_eq_some_iff.1 h2).1).trans h2
    obtain ⟨K, hKd⟩ : ∃ K : Nat → Prop, K = fun k => (Rd k ∨ W.heap.size ≤ k) ∧ k < wr.heap.size ∧ k ≠ R := ⟨_, rfl⟩
    have hwn : wn.heap.size < wl.heap.size := by have := HBL.out.size; simp at this; omega
    have hKn : Keep (fun k => W.heap.size ≤ k ∧ k < wn.heap.size) wn wr := (Keep.alloc _ wn _).trans' ((HBL.out.mono (Nat.le_refl _)).trans (q6.mono HBL.out.size) |> Keep.of_below) fun k hk h => ⟨h, by simp; omega⟩
    obtain ⟨wb, rfl, hwc1, hwc2, htel⟩ := tel_made HOU.out HMP.out (by omega) sb so (fun i hi => by
      have := HFIN.out i hi
      rw [(HBW.out.trans (hbr.mono hzW)).cell (p := ⟨sb, so + i * 2, none⟩) (by show sb < _; exact hsb0)]; exact this) K (by rw [hKd]; exact ⟨.inl (hR0 sb hsb0), by omega, by have := HB2.out.size; omega⟩) (fun k h1 h2 => by rw [hKd]; exact ⟨.inr h1, by have := q6.size; omega, by omega⟩) hKn
    obtain ⟨yb, rfl, _⟩ := own_cell HYO.out HYK.out (show y < y + 1 by omega) rfl
    have hyo : wr.ownsRow (wn.heap.size + 1) 3 1 (.slice (some ⟨yb, 0, none⟩) (y + 1) yc) (y + 1) (i64s (Wlk.along l 0 zs)) := by
      have h := ownsRow_below HYO.out q6 (Nat.le_refl _)
      rwa [World.size_alloc] at h
    have hyb := (hyo.lt yb rfl)
    have HYR := Lib.hid hyo
    have HTEL := Lib.hid htel
    have HTB := Lib.hid hTB
    have HRM := Lib.hid q4
    have HRB := Lib.hid q5
    have HBR := Lib.hid hbr
    have HKD := Lib.hid hKd
    have HKN := Lib.hid hKn
    have hL0 : Hid (told_at_ l zs 0 = toldG l 0 zs) := told_start l zs
    have hdl : Hid (∃ db, da = some ⟨db, 0, none⟩ ∨ True) := Lib.hid ⟨0, .inr trivial⟩
    have HJ0 : Hid (∀ X, Below W.heap.size W X → J [] O X) := Lib.hid fun X hX => HJ.out _ _ _ _ H0.out ((Keep.of_below hX).mono fun k hk h => by
      rcases h with h | h
      · exact h
      · exact (HO.out k h).2)
    have HTIN : Hid (∀ (X : World) (pre : List Wd) (sg : List Int) (ws : List (List Int)), Keep (fun k => ¬ O k ∧ k ≠ R) wr X → Below W.heap.size W X → Room R len sg X → J pre O X → nums pre ++ ws <+: toldG l 0 zs → Tin W.heap.size K l len sb so wb 0 R J (toldG l 0 zs) pre sg ws O X) := Lib.hid fun X pre sg ws hk hb hr hj ht => by
      refine ⟨HTEL.out.keep (hk.mono fun k _ h => ?_), hr, hj, ht, fun k h h' => ?_, ?_, ?_, hb.size, by have := HB2.out.size; omega, ?_, fun k h => Nat.lt_of_lt_of_le (HO.out k h).2 hb.size⟩
      · rw [HKD.out] at h
        refine ⟨fun h' => ?_, h.2.2⟩
        rcases h.1 with h1 | h1
        · exact (HO.out k h').1 h1
        · have := (HO.out k h').2; omega
      · rw [HKD.out] at h'
        rcases h'.1 with h1 | h1
        · exact (HO.out k h).1 h1
        · have := (HO.out k h).2; omega
      · rw [HKD.out]; exact fun h => h.2.2 rfl
      · intro h; have := (HO.out R h).2; have := HB2.out.size; omega
      · intro k h; rw [HKD.out] at h; exact Nat.lt_of_lt_of_le h.2.1 hk.size
    have HALL : Hid (∀ i, i < len → AllAt F W.heap.size K l len sb so cap wb 0 wc len dc yl da R J Jx (toldG l 0 zs) i) := Lib.hid fun i hi => tall_at F hfn hro hd HC.out W.heap.size K len sb so cap wb 0 wc len dc yl da R J Jx (toldG l 0 zs) HLE.out.symm hl6 ⟨hcp, by unfold maxLen; exact hcm⟩ ⟨hwc1, hwc2⟩ HJ.out HYD.out len i hi (by omega)
    clear q4 q5 hbr hKn hTB hyo htel hKd
    cases hwk : walk l 0 zs with
    | none =>
      have hle := (along_len l zs 0).2 hwk
      have hym1 : y + 1 ≤ m := by have := HYK.out; have := HZL.out; omega
      have hgt : decide ((y : Int) + 1 > (m : Int)) = false := decide_eq_false (by omega)
      have hgn : ¬ m < y + 1 := by omega
      have hgi : ¬ (m : Int) < (y : Int) + 1 := by omega
      have hmin : min ((y : Int) + 1) (m : Int) = (y : Int) + 1 := by omega
      have hyc1 : (y : Int) + 1 ≤ (yc : Int) := by obtain ⟨g, cap', cur, e, _, _, h1, _⟩ := HYR.out.2.resolve_left (by rintro ⟨_, h⟩; omega); simp only [Value.slice.injEq] at e; omega
      have hyj : y + 1 ≤ y + 1 := Nat.le_refl _
      have hbd2 : Below W.heap.size W wr.drew := HBR.out.trans (below_drawn (Below.refl _ _) ⟨1, rfl⟩)
      have hw8s : (wr.drew).heap.size = wr.heap.size := rfl
      obtain ⟨O8, hO8e⟩ : ∃ O8 : Nat → Prop, O8 = O := ⟨_, rfl⟩
      obtain ⟨w8, hw8⟩ : ∃ w8, w8 = wr.drew := ⟨_, rfl⟩
      have HLI : Hid (LoopI J l zs O R len (y + 1) m wr 0 (fun k => O8 k ∨ k = R) w8) := Lib.hid (by
        rw [hw8, hO8e]
        exact ⟨O, [], y, fun _ => Iff.rfl, by rw [Nat.sub_zero, told_none (by rw [HYK.out]; exact Nat.le_refl _)]; rfl, HJ0.out _ hbd2, Keep.drew _ wr, fun k h => .inl h, HRM.out.keep (Keep.drew (fun _ => True) wr) trivial, by omega, by omega⟩)
      have hzw8 : wr.heap.size ≤ w8.heap.size := by rw [hw8]; exact Nat.le_refl _
      have hB2d := (HCC.out _ hbd2).2
      clear hO8e hw8s hbd2
      gi_wp2
      refine wpIn_region_held_drewN (S := (fun w' => w'.cell? ⟨B2, 0, none⟩ = some (.slice b m cap2))) (by kernel_rfl) (by first | ((exact hB2d)) | ((try dsimp only); (exact hB2d))) (fun hHeld => ?_)
      refine wpAnyHIn_take hfn (by kernel_rfl) (i := 0) (v := ?vrb1) rfl (by kernel_rfl) (by kernel_rfl) (by kernel_rfl) (fun _ _ _ h => h) (Or.inl ⟨by rfl, ?hrb1⟩) (by assumption) ?rrb1
      case hrb1 => intro w hSw; (try dsimp only at hSw); go_simp; try with_reducible rfl
      simp only [Act.put, List.getElem_toArray, List.getElem_cons_succ, List.getElem_cons_zero, List.setIfInBounds_toArray, List.set_cons_succ, List.set_cons_zero]
      refine wpAnyHIn_take hfn (by kernel_rfl) (i := 1) (v := ?vrb4) rfl (by kernel_rfl) (by kernel_rfl) (by kernel_rfl) (fun _ _ _ h => h) (Or.inl ⟨by rfl, ?hrb4⟩) (by assumption) ?rrb4
      case hrb4 => intro w hSw; (try dsimp only at hSw); go_simp; try with_reducible rfl
      simp only [Act.put, List.getElem_toArray, List.getElem_cons_succ, List.getElem_cons_zero, List.setIfInBounds_toArray, List.set_cons_succ, List.set_cons_zero]
      refine wpAnyHIn_take hfn (by kernel_rfl) (i := 2) (v := ?vrb7) rfl (by kernel_rfl) (by kernel_rfl) (by kernel_rfl) (fun _ _ _ h => h) (Or.inl ⟨by rfl, ?hrb7⟩) (by assumption) ?rrb7
      case hrb7 => intro w hSw; (try dsimp only at hSw); go_simp; try with_reducible rfl
      simp only [Act.put, List.getElem_toArray, List.getElem_cons_succ, List.getElem_cons_zero, List.setIfInBounds_toArray, List.set_cons_succ, List.set_cons_zero]
      refine wpAnyHIn_take hfn (by kernel_rfl) (i := 3) (v := ?vrb10) rfl (by kernel_rfl) (by kernel_rfl) (by kernel_rfl) (fun _ _ _ h => h) (Or.inl ⟨by rfl, ?hrb10⟩) (by assumption) ?rrb10
      case hrb10 => intro w hSw; (try dsimp only at hSw); go_simp; try with_reducible rfl
      simp only [Act.put, List.getElem_toArray, List.getElem_cons_succ, List.getElem_cons_zero, List.setIfInBounds_toArray, List.set_cons_succ, List.set_cons_zero]
      refine wpAnyHIn_take hfn (by kernel_rfl) (i := 4) (v := ?vrb13) rfl (by kernel_rfl) (by kernel_rfl) (by kernel_rfl) (fun _ _ _ h => h) (Or.inl ⟨by rfl, ?hrb13⟩) (by assumption) ?rrb13
      case hrb13 => intro w hSw; (try dsimp only at hSw); go_simp; try with_reducible rfl
      simp only [Act.put, List.getElem_toArray, List.getElem_cons_succ, List.getElem_cons_zero, List.setIfInBounds_toArray, List.set_cons_succ, List.set_cons_zero]
      refine wpAnyHIn_take hfn (by kernel_rfl) (i := 5) (v := ?vrb16) rfl (by kernel_rfl) (by kernel_rfl) (by kernel_rfl) (fun _ _ _ h => h) (Or.inl ⟨by rfl, ?hrb16⟩) (by assumption) ?rrb16
      case hrb16 => intro w hSw; (try dsimp only at hSw); go_simp; try with_reducible rfl
      simp only [Act.put, List.getElem_toArray, List.getElem_cons_succ, List.getElem_cons_zero, List.setIfInBounds_toArray, List.set_cons_succ, List.set_cons_zero]
      refine wpAnyHIn_take hfn (by kernel_rfl) (i := 6) (v := undef) rfl (by kernel_rfl) (by kernel_rfl) (by kernel_rfl) (fun _ _ _ h => h) (Or.inr ⟨by rfl, rfl⟩) (by assumption) ?_
      simp only [Act.put, List.getElem_toArray, List.getElem_cons_succ, List.getElem_cons_zero, List.setIfInBounds_toArray, List.set_cons_succ, List.set_cons_zero]
      refine wpAnyHIn_take hfn (by kernel_rfl) (i := 7) (v := undef) rfl (by kernel_rfl) (by kernel_rfl) (by kernel_rfl) (fun _ _ _ h => h) (Or.inr ⟨by rfl, rfl⟩) (by assumption) ?_
      simp only [Act.put, List.getElem_toArray, List.getElem_cons_succ, List.getElem_cons_zero, List.setIfInBounds_toArray, List.set_cons_succ, List.set_cons_zero]
      refine wpAnyHIn_take hfn (by kernel_rfl) (i := 8) (v := undef) rfl (by kernel_rfl) (by kernel_rfl) (by kernel_rfl) (fun _ _ _ h => h) (Or.inr ⟨by rfl, rfl⟩) (by assumption) ?_
      simp only [Act.put, List.getElem_toArray, List.getElem_cons_succ, List.getElem_cons_zero, List.setIfInBounds_toArray, List.set_cons_succ, List.set_cons_zero]
      refine wpAnyHIn_take hfn (by kernel_rfl) (i := 9) (v := undef) rfl (by kernel_rfl) (by kernel_rfl) (by kernel_rfl) (fun _ _ _ h => h) (Or.inr ⟨by rfl, rfl⟩) (by assumption) ?_
      simp only [Act.put, List.getElem_toArray, List.getElem_cons_succ, List.getElem_cons_zero, List.setIfInBounds_toArray, List.set_cons_succ, List.set_cons_zero]
      refine wpAnyHIn_take hfn (by kernel_rfl) (i := 10) (v := undef) rfl (by kernel_rfl) (by kernel_rfl) (by kernel_rfl) (fun _ _ _ h => h) (Or.inr ⟨by rfl, rfl⟩) (by assumption) ?_
      simp only [Act.put, List.getElem_toArray, List.getElem_cons_succ, List.getElem_cons_zero, List.setIfInBounds_toArray, List.set_cons_succ, List.set_cons_zero]
      refine wpAnyHIn_take hfn (by kernel_rfl) (i := 11) (v := undef) rfl (by kernel_rfl) (by kernel_rfl) (by kernel_rfl) (fun _ _ _ h => h) (Or.inr ⟨by rfl, rfl⟩) (by assumption) ?_
      simp only [Act.put, List.getElem_toArray, List.getElem_cons_succ, List.getElem_cons_zero, List.setIfInBounds_toArray, List.set_cons_succ, List.set_cons_zero]
      refine wpAnyHIn_take hfn (by kernel_rfl) (i := 12) (v := undef) rfl (by kernel_rfl) (by kernel_rfl) (by kernel_rfl) (fun _ _ _ h => h) (Or.inr ⟨by rfl, rfl⟩) (by assumption) ?_
      simp only [Act.put, List.getElem_toArray, List.getElem_cons_succ, List.getElem_cons_zero, List.setIfInBounds_toArray, List.set_cons_succ, List.set_cons_zero]
      refine wpAnyHIn_take hfn (by kernel_rfl) (i := 13) (v := undef) rfl (by kernel_rfl) (by kernel_rfl) (by kernel_rfl) (fun _ _ _ h => h) (Or.inr ⟨by rfl, rfl⟩) (by assumption) ?_
      simp only [Act.put, List.getElem_toArray, List.getElem_cons_succ, List.getElem_cons_zero, List.setIfInBounds_toArray, List.set_cons_succ, List.set_cons_zero]
      refine wpAnyHIn_take hfn (by kernel_rfl) (i := 14) (v := undef) rfl (by kernel_rfl) (by kernel_rfl) (by kernel_rfl) (fun _ _ _ h => h) (Or.inr ⟨by rfl, rfl⟩) (by assumption) ?_
      simp only [Act.put, List.getElem_toArray, List.getElem_cons_succ, List.getElem_cons_zero, List.setIfInBounds_toArray, List.set_cons_succ, List.set_cons_zero]
      refine wpAnyHIn_take hfn (by kernel_rfl) (i := 15) (v := ?vrb37) rfl (by kernel_rfl) (by kernel_rfl) (by kernel_rfl) (fun _ _ _ h => h) (Or.inl ⟨by rfl, ?hrb37⟩) (by assumption) ?rrb37
      case hrb37 => intro w hSw; (try dsimp only at hSw); go_simp; try with_reducible rfl
      simp only [Act.put, List.getElem_toArray, List.getElem_cons_succ, List.getElem_cons_zero, List.setIfInBounds_toArray, List.set_cons_succ, List.set_cons_zero]
      refine wpAnyHIn_done (by kernel_rfl) ?_ _
      simp only [onlyN]
      clear hHeld
      rw [← hw8] at hB2d ⊢
      clear hw8
      gi_wp2_with (gi_at_call 57; refine (backwardI_in F _ (hfn _) hro _ _ _ _).mono ?_; rintro e w9 ⟨rfl, rfl⟩)
      obtain ⟨ys, hys⟩ : ∃ ys, ys = (Wlk.along l 0 zs).take (y + 1) := ⟨_, rfl⟩
      have hysl : ys.length = y + 1 := by rw [hys, List.length_take, HYK.out]; omega
      have hRb0 : R < wr.heap.size := by obtain ⟨cur, hcc, _⟩ := HRM.out.obj; exact (Array.getElem?_eq_some_iff.1 hcc).1
      obtain ⟨X5, hX5⟩ : ∃ X5, X5 = w8.alloc (.cells #[.slice (some ⟨yb, 0, none⟩) (y + 1) yc] 23) := ⟨_, rfl⟩
      obtain ⟨xb, hxb⟩ : ∃ xb, xb = w8.heap.size := ⟨_, rfl⟩
      have zX5 : X5.heap.size = xb + 1 := by rw [hX5, hxb]; simp
      have hk5 : ∀ S, Keep S w8 X5 := fun S => by rw [hX5]; exact Keep.alloc S w8 _
      have hc5 : X5.cell? ⟨xb, 0, none⟩ = some (.slice (some ⟨yb, 0, none⟩) (y + 1) yc) := by rw [hX5, hxb, cell_of_obj (heap_alloc_new w8 _)]; rfl
      have hLI5 := loopI_keep (base' := X5.heap.size) HJ.out (by omega) (by omega) (by omega) HLI.out (hk5 _)
      have hyw : W.heap.size ≤ yb ∧ yb < wl.heap.size := ⟨by have h1 := (HYO.out.lt yb rfl).1; have := HBN.out.size; simp at h1; omega, (HYO.out.lt yb rfl).2⟩
      obtain ⟨U0, hU0⟩ : ∃ U0 : Nat → Prop, U0 = fun k => O8 k ∨ k = R := ⟨_, rfl⟩
      rw [← hU0] at hLI5
      have hUR : ∀ k, U0 k → ¬ (k = xb ∨ k = yb) ∧ k < X5.heap.size := by
        obtain ⟨O1, preJ, q, h1, h2, h3, h4, h5, h6, h7, h8⟩ := HLI.out
        intro k h
        rw [hU0] at h
        have h' := (h1 k).1 h
        rcases h' with h' | h'
        · rcases h5 k h' with h9 | h9
          · have := (HO.out k h9).2; exact ⟨by rintro (e | e) <;> omega, by omega⟩
          · exact ⟨by rintro (e | e) <;> omega, by omega⟩
        · exact ⟨by rintro (e | e) <;> omega, by omega⟩
      have hslY : Sl .i64 X5 (some ⟨yb, 0, none⟩) (y + 1) yc ys := by
        have h1 : Sl .i64 wr (some ⟨yb, 0, none⟩) (y + 1) yc (Wlk.along l 0 zs) := Sl.of_owns HYR.out (fun z hz => by
          obtain ⟨i, hi, rfl⟩ := List.getElem_of_mem hz
          have h := along_at HC.out zs (i := 0) (by omega) i (by rw [Int.natCast_zero]; exact hi)
          rw [Int.natCast_zero, List.getD_eq_getElem?_getD, List.getElem?_eq_getElem hi, Option.getD_some] at h
          exact WalkArith.wf_i64 (by omega)) HYK.out
        have h2 := h1.cut (k := y + 1) (by omega)
        rw [← hys] at h2
        obtain ⟨O1, preJ, q, _, _, _, h4, _⟩ := HLI.out
        exact (h2.keep h4 (fun b' off e => by simp only [Option.some.injEq, Addr.mk.injEq] at e; obtain ⟨rfl, _⟩ := e; exact ⟨fun h => by have := (HO.out yb h).2; omega, by omega⟩)).keep (hk5 (fun _ => True)) (fun _ _ _ => trivial)
      rw [← hX5, ← hxb]
      clear hX5 hk5
      have HLI5 := Lib.hid hLI5
      have HYS := Lib.hid hys
      have HYSL := Lib.hid hysl
      have hRb : R < X5.heap.size := by omega
      have hxbz : wr.heap.size ≤ xb := by omega
      clear hLI5 hys HLI hxb
      refine wpIn_range_iterR hro (fun h => by rw [hd] at h; cases h) (gf := 75) (lb := #[.pointer (some ⟨xb, 0, none⟩)]) rfl (hfn _) (enters_of Try.func75 (by kernel_rfl) rfl)
        (encs := biv (zs := ys)) (Rd := fun k => k = xb ∨ k = yb) (T := BackI ys) (At := fun _ _ => True) (S := fun xs => BackI ys xs ∧ xs.length = y + 1) (Sp := fun _ => True) (N := y + 1) (w0 := X5)
        (backwardI_iter F (n - 1) hfn hro hd xb (some ⟨yb, 0, none⟩) (y + 1) yc ys X5 hslY (by omega) (fun k => k = xb ∨ k = yb) (fun b' off e => by simp only [Option.some.injEq, Addr.mk.injEq] at e; exact .inr e.1.symm) (.inl rfl) (by rintro k (rfl | rfl) <;> omega) hc5)
        (fun _ _ _ _ _ h _ => trivial) (Keep.refl _ _) (by rintro k (rfl | rfl) <;> omega) (fun _ => rfl)
        (fun pre U X => LoopI J l zs O R len (y + 1) m wr pre.length U X) (fun c pre U X => LoopX Jx c U X) (fun _ _ _ _ h hk => loopI_keep HJ.out (by omega) (by omega) hRb h hk) (fun _ _ _ _ _ h hk => loopX_keep HJX.out (by omega) h hk)
        U0 hUR HLI5.out
        (fun x => { tmps := #[.func (.yield yl) #[] #[], .pointer (some ⟨B1, 0, none⟩), .pointer (some ⟨B2, 0, none⟩), undef, .pointer (some ⟨wn.heap.size, 0, none⟩), .slice (some ⟨yb, 0, none⟩) (y + 1) yc, .pointer (some ⟨rb, 0, none⟩), .int .i64 (x.1.1 : Int), .int .i64 x.1.2, .slice (some ⟨sb, so, none⟩) len cap, .func (.yield yl) #[] #[], .agg #[.slice (some ⟨sb, so, none⟩) len cap, .slice da len dc, .slice (some ⟨wb, 0, none⟩) len wc, .func (.yield yl) #[] #[]], .slice (some ⟨sb, so, none⟩) len cap, .slice b m cap2, .slice (some ⟨yb, 0, none⟩) (y + 1) yc, .slice (some ⟨sb, so, none⟩) len cap, .int .i64 (len : Int), .slice (some ⟨R, 0, none⟩) 0 len, .slice b m cap2, .slice (some ⟨yb, 0, none⟩) (y + 1) yc, .int .i64 ((y : Int) + 1), .int .i64 (y : Int), .slice b y cap2, .slice (some ⟨R, 0, none⟩) y len, .slice (some ⟨yb, 0, none⟩) (y + 1) yc, .int .i64 ((y : Int) + 1), .slice b m cap2, .int .i64 (m : Int), .bool false, .bool false, undef, undef, undef, undef, undef, undef, undef, undef, undef, .bool false, .slice (some ⟨yb, 0, none⟩) (y + 1) yc, .slice (some ⟨yb, 0, none⟩) (y + 1) yc, .int .i64 ((y : Int) + 1), .slice b m cap2, .int .i64 (m : Int), .int .i64 ((y : Int) + 1), .slice (some ⟨yb, 0, none⟩) (y + 1) yc, .func (.func 75) #[] #[.pointer (some ⟨xb, 0, none⟩)], .int .i64 (x.1.1 : Int), .int .i64 x.1.2, undef, undef, undef, undef, undef, undef, undef, undef, undef, undef, undef, undef, undef], defers := [] }) ?assign ?body ?done ?stop
      case assign =>
        intro l2 x X K' hK'
        simp only [biv]
        gi_wp2
        exact hK'
      case body =>
        rintro l2 pre x U X hTx - ⟨O1, preJ, q, h1, h2, h3, h4, h5, h6, h7, h8⟩ hlt hsz2
        have hlast := hTx.last
        obtain ⟨⟨⟨k, uI⟩, hx2⟩, hxe⟩ : ∃ y, y = x := ⟨x, rfl⟩
        subst hxe
        simp only at hlast hx2 ⊢
        rw [HYSL.out] at hlast
        obtain ⟨u, rfl⟩ : ∃ u : Nat, uI = (u : Int) := by
          have h := (along_at HC.out zs (i := 0) (by omega) k (by rw [Int.natCast_zero, HYK.out]; omega)).1
          rw [Int.natCast_zero] at h
          have e := hx2.2
          rw [HYS.out, List.getD_eq_getElem?_getD, List.getElem?_take_of_lt (by omega), ← List.getD_eq_getElem?_getD] at e
          exact ⟨uI.toNat, by omega⟩
        have hway : (Wlk.along l 0 zs).getD k 0 = (u : Int) := by
          have e := hx2.2
          rwa [HYS.out, List.getD_eq_getElem?_getD, List.getElem?_take_of_lt (by omega), ← List.getD_eq_getElem?_getD] at e
        have hun2 : u < len := by
          have h := (along_at HC.out zs (i := 0) (by omega) k (by rw [Int.natCast_zero, HYK.out]; omega)).2
          rw [Int.natCast_zero, hway] at h; omega
        have hku : k ≤ u := by
          have h := along_ge HC.out zs (i := 0) (by omega) k (by rw [Int.natCast_zero, HYK.out]; omega)
          rw [Int.natCast_zero, hway] at h; omega
        have hkm : k < m := by omega
        obtain ⟨s, hs⟩ : ∃ s, s = zs.getD k 0 := ⟨_, rfl⟩
        have hno : ∀ k', W.heap.size ≤ k' → k' < wr.heap.size → k' ≠ R → ¬ O1 k' ∧ k' ≠ R := fun k' e1 e2 e3 => ⟨fun h => (h5 k' h).elim (fun h => by have := (HO.out k' h).2; omega) (fun h => by omega), e3⟩
        have hnoR : ∀ k', Rd k' → ¬ O1 k' ∧ k' ≠ R := fun k' e1 => by
          have hz : k' < W.heap.size := HRW.out k' e1
          exact ⟨fun h => (h5 k' h).elim (fun h => (HO.out k' h).1 e1) (fun h => by omega), by omega⟩
        have hb0X : Below W0.heap.size W0 X := (HBW.out.trans (HBR.out.mono hzW)).trans (h4.below (by omega) (fun k' hk' => ⟨fun h => (HO.out k' h).1 (hR0 k' hk'), by omega⟩))
        obtain ⟨gb, go, rfl, hgb, hgc⟩ := HZ.out.at (by omega)
        have hgc1 := hgc k hkm
        rw [← hs] at hgc1
        have hgX : X.cell? ⟨gb, go + k, none⟩ = some (.int .i64 s) := by rw [hb0X.cell (p := ⟨gb, go + k, none⟩) hgb]; exact hgc1
        have hwnl : W.heap.size ≤ wn.heap.size := HBN.out.size
        have hwlr : wl.heap.size ≤ wr.heap.size := q6.size
        have HSK : Hid (∀ w', Keep (fun k' => ¬ O1 k' ∧ k' ≠ R) X w' → w'.cell? ⟨wn.heap.size, 0, none⟩ = some (.slice (some ⟨sb, so, none⟩) len cap) ∧ w'.cell? ⟨wn.heap.size, 1, none⟩ = some (.slice da len dc) ∧ w'.cell? ⟨wn.heap.size, 2, none⟩ = some (.slice (some ⟨wb, 0, none⟩) len wc) ∧ w'.cell? ⟨wn.heap.size, 3, none⟩ = some (.func (.yield yl) #[] #[]) ∧ w'.cell? ⟨B2, 0, none⟩ = some (.slice (some ⟨gb, go, none⟩) m cap2) ∧ w'.cell? ⟨gb, go + k, none⟩ = some (.int .i64 s) ∧ w'.cell? ⟨rb, 0, none⟩ = some (.slice (some ⟨R, 0, none⟩) y len)) := Lib.hid fun w' hk => by
          have g1 := (h4.trans' hk (U := fun k' => k' = wn.heap.size) fun k' hk' e => by subst e; have := hno wn.heap.size hwnl (by omega) (by omega); exact ⟨⟨fun h => by have := (HO.out _ h).2; omega, this.2⟩, this⟩).heap HTB.out rfl
          have g2 := (h4.trans' hk (U := fun k' => k' = rb) fun k' hk' e => by have e' : k' = rb := e; rw [e']; have := hno rb (by omega) (by omega) (fun e => q3 e.symm); exact ⟨⟨fun h => by have := (HO.out _ h).2; omega, this.2⟩, this⟩).heap HRB.out rfl
          have g3 := (h4.trans' hk (U := fun k' => k' = B2) fun k' hk' e => by have e' : k' = B2 := e; rw [e']; have := hnoR B2 hR2; exact ⟨⟨fun h => (HO.out _ h).1 hR2, this.2⟩, this⟩).cell (HCC.out _ HBR.out).2 rfl
          exact ⟨by rw [cell_of_obj g1]; rfl, by rw [cell_of_obj g1]; rfl, by rw [cell_of_obj g1]; rfl, by rw [cell_of_obj g1]; rfl, g3, hk.cell hgX (hnoR gb (hR0 gb hgb)), by rw [cell_of_obj g2]; rfl⟩
        have hdsX : Sl .i64 X da len dc ds := by
          refine (HDS.out.keep HKN.out (fun b' off e => ⟨HDN.out b' off e, ?_⟩)).keep h4 (fun b' off e => ?_)
          · obtain ⟨b2, off2, e2, hlt2, _⟩ := HDS.out.at (by omega)
            rw [e] at e2; simp only [Option.some.injEq, Addr.mk.injEq] at e2; omega
          · have := HDN.out b' off e
            obtain ⟨b2, off2, e2, hlt2, _⟩ := HDS.out.at (by omega)
            rw [e] at e2; simp only [Option.some.injEq, Addr.mk.injEq] at e2
            exact ⟨fun h => by have := (HO.out b' h).2; omega, by omega⟩
        have HAF : Hid (∀ m', CallsIn (F.inRound l2) m' Try.prog 59 #[.agg #[.slice (some ⟨sb, so, none⟩) len cap, .slice da len dc, .slice (some ⟨wb, 0, none⟩) len wc, .func (.yield yl) #[] #[]], .int .i64 (u : Int), .int .i64 s] X.drew
            fun e w' => ∃ aa ak ac, e = .returned (.slice aa ak ac) ∧ (goes l u s).length = ak ∧ w'.ownsRow X.drew.heap.size 59 2 (.slice aa ak ac) ak (acells (goes l u s)) ∧ Below X.drew.heap.size X.drew w') := Lib.hid fun m' => by
          refine (HAFT.out m' u s da (some ⟨wb, 0, none⟩) dc wc ds X.drew (by omega) ((HX.out.below hb0X (Nat.le_refl _)).drew) (hdsX.drew) HDV.out).inRound l2
        have HBACK := Lib.hid (told_back HC.out (w := zs) (k := k) (s := s) (u := u) (by rw [HYK.out]; omega) (by rw [HZL.out]; exact hkm) hs.symm hway)
        have HPJ : Hid (nums preJ = told_at_ l zs (k + 1)) := Lib.hid (by rw [h2]; congr 1; omega)
        have HU := Lib.hid h1
        have HKX := Lib.hid h4
        have HO1 := Lib.hid h5
        have HBYC : Hid (∀ (w7 : World) (aa : Option Addr) (ak ac : Nat), Below X.heap.size X w7 → (goes l u s).length = ak → w7.ownsRow X.drew.heap.size 59 2 (.slice aa ak ac) ak (acells (goes l u s)) → ∀ m', CallsIn (F.inRound l2) m' Try.prog 58 #[.agg #[.slice (some ⟨sb, so, none⟩) len cap, .slice da len dc, .slice (some ⟨wb, 0, none⟩) len wc, .func (.yield yl) #[] #[]], .slice aa ak ac, .slice (some ⟨R, 0, none⟩) k len] w7
            (Tout R len J Jx preJ (zs.take k) ((byA l (goes l u s)).map (zs.take k ++ ·)) O1 w7)) := Lib.hid fun w7 aa ak ac hb7 hak hown m' => by
          have hgz : ∀ z ∈ goes l u s, (Lit.int .i64 z.1).wf = true ∧ (Lit.int .i64 z.2).wf = true := fun z hz => by
            obtain ⟨e1, e2, e3⟩ := (check_arcs HC.out (by rw [HLE.out]; exact hun2)).1 z (goes_mem hz).1
            have := (Utf.good_iff _).1 e1
            rw [HLE.out] at e3
            exact ⟨WalkArith.wf_i64 (by omega), WalkArith.wf_i64 (by omega)⟩
          have hars := Ars.of_owns hown hgz hak
          obtain ⟨K', hK'⟩ : ∃ K' : Nat → Prop, K' = fun k' => (K k' ∨ X.heap.size ≤ k') ∧ k' < w7.heap.size := ⟨_, rfl⟩
          have hz7 := hb7.size
          have hzX := h4.size
          have hrow : Arow K' w7 aa ak (goes l u s) := by
            refine ⟨hak, ?_⟩
            rcases hars.2.2.2.2 with h0 | ⟨b', off, ha, hcs⟩
            · exact .inl h0
            · by_cases hz : ak = 0
              · exact .inl hz
              · refine .inr ⟨b', off, ha, ?_, hcs⟩
                obtain ⟨g, cap2', cur2, e2, hB2', hh2, _⟩ := hown.2.resolve_left (by rintro ⟨_, h⟩; exact hz h)
                simp only [Value.slice.injEq] at e2
                have e3 := e2.1
                rw [ha] at e3
                simp only [Option.some.injEq, Addr.mk.injEq] at e3
                rw [hK']
                exact ⟨.inr (by rw [e3.1]; exact hB2'), by rw [e3.1]; exact (Array.getElem?_eq_some_iff.1 hh2).1⟩
          have hKlt : ∀ k', K k' → k' < wr.heap.size ∧ k' ≠ R := fun k' h => by rw [HKD.out] at h; exact h.2
          have hK7 : Keep K wr w7 := (h4.trans ((Keep.of_below hb7).mono fun k' hk' _ => hk')).mono fun k' hk' h => by
            rw [HKD.out] at h
            exact ⟨fun h' => h.1.elim (fun e => (HO.out k' h').1 e) (fun e => by have := (HO.out k' h').2; omega), h.2.2⟩
          have hall : ∀ i, i < len → AllAt F W.heap.size K' l len sb so cap wb 0 wc len dc yl da R J Jx (toldG l 0 zs) i := fun i hi => tall_at F hfn hro hd HC.out W.heap.size K' len sb so cap wb 0 wc len dc yl da R J Jx (toldG l 0 zs) HLE.out.symm hl6 ⟨hcp, by unfold maxLen; exact hcm⟩ ⟨hwc1, hwc2⟩ HJ.out HYD.out len i hi (by omega)
          have hroom : Room R len (zs.take k) w7 := by
            have h9 : zs.take q = zs.take k ++ (zs.take q).drop k := by
              have := List.take_append_drop k (zs.take q)
              rw [List.take_take, Nat.min_eq_left (by omega)] at this
              exact this.symm
            rw [h9] at h6
            exact h6.cut.keep (Keep.of_below hb7) (by obtain ⟨cur, hcc, _⟩ := h6.obj; exact (Array.getElem?_eq_some_iff.1 hcc).1)
          have hin : Tin W.heap.size K' l len sb so wb 0 R J (toldG l 0 zs) preJ (zs.take k) ((byA l (goes l u s)).map (zs.take k ++ ·)) O1 w7 := by
            refine ⟨(HTEL.out.keep hK7).mono fun k' h => ?_, hroom, HJ.out _ _ _ _ h3 ((Keep.of_below hb7).mono fun k' hk' _ => hk'), ?_, fun k' h h' => ?_, fun h => ?_, fun h => ?_, by omega, by omega, fun k' h => ?_, fun k' h => ?_⟩
            · rw [hK']; exact ⟨.inl h, by have := (hKlt k' h).1; omega⟩
            · rw [HPJ.out, ← HBACK.out, ← hL0.out]
              exact told_mono HC.out k (by rw [HZL.out]; omega) (by rw [HYK.out]; omega)
            · rw [hK'] at h'
              rcases h'.1 with e | e
              · have e9 := e
                rw [HKD.out] at e9
                rcases h5 k' h with e2 | e2
                · exact e9.1.elim (fun e => (HO.out k' e2).1 e) (fun e => by have := (HO.out k' e2).2; omega)
                · omega
              · rcases h5 k' h with e2 | e2
                · have := (HO.out k' e2).2; omega
                · omega
            · rw [hK'] at h; exact h.1.elim (fun e => (hKlt R e).2 rfl) (fun e => by omega)
            · exact (h5 R h).elim (fun e => by have := (HO.out R e).2; omega) (fun e => by omega)
            · rw [hK'] at h; exact h.2
            · exact (h5 k' h).elim (fun e => by have := (HO.out k' e).2; omega) (fun e => by omega)
          have hcall := by_in F hfn hro hd HC.out W.heap.size K' len sb so cap wb 0 wc len dc yl da R J Jx (toldG l 0 zs) HLE.out.symm hl6 HJ.out u hun2 (goes l u s) (fun a ha => (goes_mem ha).1) (fun u' _ h => hall u' h) m' aa ak ac preJ (zs.take k) O1 w7 (by rw [List.length_take]; omega) hars.2.1 hars.2.2.1 hrow hin
          rw [List.length_take, HZL.out, Nat.min_eq_left (by omega)] at hcall
          unfold tv at hcall
          exact hcall.inRound l2
        have hki : (k : Int) < (m : Int) := by omega
        have hk0 : (0 : Int) ≤ (k : Int) := by omega
        have hkl : (k : Int) ≤ (len : Int) := by omega
        have hfnr : ∀ f, (F.inRound l2).fn f := hfn
        clear h1 h2 h3 h4 h5 h6 hgc hgc1 hgX hdsX hb0X hno hnoR hs hway hTx
        gi_wp2
        refine wpIn_region_held_drew (S := (fun w' => w'.cell? ⟨wn.heap.size, 0, none⟩ = some (.slice (some ⟨sb, so, none⟩) len cap) ∧ w'.cell? ⟨wn.heap.size, 1, none⟩ = some (.slice da len dc) ∧ w'.cell? ⟨wn.heap.size, 2, none⟩ = some (.slice (some ⟨wb, 0, none⟩) len wc) ∧ w'.cell? ⟨wn.heap.size, 3, none⟩ = some (.func (.yield yl) #[] #[]) ∧ w'.cell? ⟨B2, 0, none⟩ = some (.slice (some ⟨gb, go, none⟩) m cap2) ∧ w'.cell? ⟨gb, go + k, none⟩ = some (.int .i64 s) ∧ w'.cell? ⟨rb, 0, none⟩ = some (.slice (some ⟨R, 0, none⟩) y len))) (by kernel_rfl) (by first | ((first | exact hS8 | exact hS7 | exact HSK.out _ (Keep.drew _ X))) | ((try dsimp only); (first | exact hS8 | exact hS7 | exact HSK.out _ (Keep.drew _ X)))) (fun hHeld => ?_)
        refine wpAnyHIn_take hfnr (by kernel_rfl) (i := 0) (v := ?vrlB1) rfl (by kernel_rfl) (by kernel_rfl) (by kernel_rfl) (fun _ _ _ h => h) (Or.inl ⟨by rfl, ?hrlB1⟩) (by assumption) ?rrlB1
        case hrlB1 => intro w hSw; (try dsimp only at hSw); go_simp; try with_reducible rfl
        simp only [Act.put, List.getElem_toArray, List.getElem_cons_succ, List.getElem_cons_zero, List.setIfInBounds_toArray, List.set_cons_succ, List.set_cons_zero]
        refine wpAnyHIn_take hfnr (by kernel_rfl) (i := 1) (v := ?vrlB4) rfl (by kernel_rfl) (by kernel_rfl) (by kernel_rfl) (fun _ _ _ h => h) (Or.inl ⟨by rfl, ?hrlB4⟩) (by assumption) ?rrlB4
        case hrlB4 => intro w hSw; (try dsimp only at hSw); go_simp; try with_reducible rfl
        simp only [Act.put, List.getElem_toArray, List.getElem_cons_succ, List.getElem_cons_zero, List.setIfInBounds_toArray, List.set_cons_succ, List.set_cons_zero]
        refine wpAnyHIn_take hfnr (by kernel_rfl) (i := 2) (v := ?vrlB7) rfl (by kernel_rfl) (by kernel_rfl) (by kernel_rfl) (fun _ _ _ h => h) (Or.inl ⟨by rfl, ?hrlB7⟩) (by assumption) ?rrlB7
        case hrlB7 => intro w hSw; (try dsimp only at hSw); go_simp; try with_reducible rfl
        simp only [Act.put, List.getElem_toArray, List.getElem_cons_succ, List.getElem_cons_zero, List.setIfInBounds_toArray, List.set_cons_succ, List.set_cons_zero]
        refine wpAnyHIn_take hfnr (by kernel_rfl) (i := 3) (v := ?vrlB10) rfl (by kernel_rfl) (by kernel_rfl) (by kernel_rfl) (fun _ _ _ h => h) (Or.inl ⟨by rfl, ?hrlB10⟩) (by assumption) ?rrlB10
        case hrlB10 => intro w hSw; (try dsimp only at hSw); go_simp; try with_reducible rfl
        simp only [Act.put, List.getElem_toArray, List.getElem_cons_succ, List.getElem_cons_zero, List.setIfInBounds_toArray, List.set_cons_succ, List.set_cons_zero]
        refine wpAnyHIn_take hfnr (by kernel_rfl) (i := 4) (v := ?vrlB13) rfl (by kernel_rfl) (by kernel_rfl) (by kernel_rfl) (fun _ _ _ h => h) (Or.inl ⟨by rfl, ?hrlB13⟩) (by assumption) ?rrlB13
        case hrlB13 => intro w hSw; (try dsimp only at hSw); go_simp; try with_reducible rfl
        simp only [Act.put, List.getElem_toArray, List.getElem_cons_succ, List.getElem_cons_zero, List.setIfInBounds_toArray, List.set_cons_succ, List.set_cons_zero]
        refine wpAnyHIn_take hfnr (by kernel_rfl) (i := 5) (v := ?vrlB16) rfl (by kernel_rfl) (by kernel_rfl) (by kernel_rfl) (fun _ _ _ h => h) (Or.inl ⟨by rfl, ?hrlB16⟩) (by assumption) ?rrlB16
        case hrlB16 => intro w hSw; (try dsimp only at hSw); go_simp; try with_reducible rfl
        simp only [Act.put, List.getElem_toArray, List.getElem_cons_succ, List.getElem_cons_zero, List.setIfInBounds_toArray, List.set_cons_succ, List.set_cons_zero]
        refine wpAnyHIn_take hfnr (by kernel_rfl) (i := 6) (v := ?vrlB19) rfl (by kernel_rfl) (by kernel_rfl) (by kernel_rfl) (fun _ _ _ h => h) (Or.inl ⟨by rfl, ?hrlB19⟩) (by assumption) ?rrlB19
        case hrlB19 => intro w hSw; (try dsimp only at hSw); go_simp; try with_reducible rfl
        simp only [Act.put, List.getElem_toArray, List.getElem_cons_succ, List.getElem_cons_zero, List.setIfInBounds_toArray, List.set_cons_succ, List.set_cons_zero]
        refine wpAnyHIn_take hfnr (by kernel_rfl) (i := 8) (v := ?vrlB22) rfl (by kernel_rfl) (by kernel_rfl) (by kernel_rfl) (fun _ _ _ h => h) (Or.inl ⟨by rfl, ?hrlB22⟩) (by assumption) ?rrlB22
        case hrlB22 => intro w hSw; (try dsimp only at hSw); go_simp; try with_reducible rfl
        simp only [Act.put, List.getElem_toArray, List.getElem_cons_succ, List.getElem_cons_zero, List.setIfInBounds_toArray, List.set_cons_succ, List.set_cons_zero]
        refine wpAnyHIn_take hfnr (by kernel_rfl) (i := 9) (v := ?vrlB25) rfl (by kernel_rfl) (by kernel_rfl) (by kernel_rfl) (fun _ _ _ h => h) (Or.inl ⟨by rfl, ?hrlB25⟩) (by assumption) ?rrlB25
        case hrlB25 => intro w hSw; (try dsimp only at hSw); go_simp; try with_reducible rfl
        simp only [Act.put, List.getElem_toArray, List.getElem_cons_succ, List.getElem_cons_zero, List.setIfInBounds_toArray, List.set_cons_succ, List.set_cons_zero]
        refine wpAnyHIn_take hfnr (by kernel_rfl) (i := 10) (v := ?vrlB28) rfl (by kernel_rfl) (by kernel_rfl) (by kernel_rfl) (fun _ _ _ h => h) (Or.inl ⟨by rfl, ?hrlB28⟩) (by assumption) ?rrlB28
        case hrlB28 => intro w hSw; (try dsimp only at hSw); go_simp; try with_reducible rfl
        simp only [Act.put, List.getElem_toArray, List.getElem_cons_succ, List.getElem_cons_zero, List.setIfInBounds_toArray, List.set_cons_succ, List.set_cons_zero]
        refine wpAnyHIn_ready (rs := [7]) (by kernel_rfl) (by simp) ?_
        refine AllReadyHIn.cons hfnr rfl (fun K hK => ?_) AllReadyHIn.nil
        go_simp
        gi_at_call 59
        refine (HAF.out _).mono ?_
        rintro e w7 ⟨aa, ak, ac, rfl, hak, hown, hb7'⟩
        have hb7 : Below X.heap.size X w7 := (below_drawn (Below.refl _ _) ⟨1, rfl⟩ : Below X.heap.size X X.drew).trans hb7'
        have hS7 := HSK.out w7 ((Keep.of_below hb7).mono fun k hk _ => hk)
        have HOW7 := Lib.hid hown
        have HAK7 := Lib.hid hak
        clear hown hak
        gi_wp2_with fail
        refine hK.out _ _ (by first | ((first | exact hS8 | exact hS7 | exact HSK.out _ (Keep.drew _ X))) | ((try dsimp only); (first | exact hS8 | exact hS7 | exact HSK.out _ (Keep.drew _ X)))) (fun hHeld => ?_)
        clear hK K
        try simp only [Act.put, List.getElem_toArray, List.getElem_cons_succ, List.getElem_cons_zero, List.setIfInBounds_toArray, List.set_cons_succ, List.set_cons_zero]
        refine wpAnyHIn_ready (rs := [11]) (by kernel_rfl) (by simp) ?_
        refine AllReadyHIn.cons hfnr rfl (fun K hK => ?_) AllReadyHIn.nil
        go_simp
        gi_at_call 58
        refine (HBYC.out w7 aa ak ac hb7 HAK7.out HOW7.out _).mono ?_
        rintro e w8x ⟨b9, O9, rfl, hk9, ho9, hr9, ht9, hf9⟩
        have hS8 := HSK.out w8x (((Keep.of_below hb7).mono fun k hk _ => hk).trans (hk9.mono fun k _ h => h))
        have hk9x : Keep (fun k => ¬ U k) X w8x := ((Keep.of_below hb7).mono fun k hk _ => hk).trans (hk9.mono fun k _ h => ⟨fun h' => h ((HU.out k).2 (.inl h')), fun h' => h ((HU.out k).2 (.inr h'))⟩)
        have HK9 := Lib.hid hk9x
        have HO9 : Hid (∀ k, O9 k → O1 k ∨ X.heap.size ≤ k ∧ k < w8x.heap.size) := Lib.hid fun k h => (ho9 k h).imp id fun h => ⟨by have := hb7.size; omega, h.2⟩
        have HR9 := Lib.hid hr9
        have HT9 := Lib.hid ht9
        have HF9 := Lib.hid hf9
        clear hk9 hk9x ho9 hr9 ht9 hf9
        gi_wp2_with fail
        refine hK.out _ _ (by first | ((first | exact hS8 | exact hS7 | exact HSK.out _ (Keep.drew _ X))) | ((try dsimp only); (first | exact hS8 | exact hS7 | exact HSK.out _ (Keep.drew _ X)))) (fun hHeld => ?_)
        clear hK K
        try simp only [Act.put, List.getElem_toArray, List.getElem_cons_succ, List.getElem_cons_zero, List.setIfInBounds_toArray, List.set_cons_succ, List.set_cons_zero]
        refine wpAnyHIn_take hfnr (by kernel_rfl) (i := 12) (v := ?vrlB64) rfl (by kernel_rfl) (by kernel_rfl) (by kernel_rfl) (fun _ _ _ h => h) (Or.inl ⟨by rfl, ?hrlB64⟩) (by assumption) ?rrlB64
        case hrlB64 => intro w hSw; (try dsimp only at hSw); go_simp; try with_reducible rfl
        simp only [Act.put, List.getElem_toArray, List.getElem_cons_succ, List.getElem_cons_zero, List.setIfInBounds_toArray, List.set_cons_succ, List.set_cons_zero]
        refine wpAnyHIn_done (by kernel_rfl) ?_ _
        clear hHeld
        cases b9
        · have HF10 := Lib.hid (HF9.out rfl)
          clear HT9 HF9
          gi_wp2
          obtain ⟨preX, hX⟩ := HF10.out
          exact ⟨fun k => O9 k ∨ k = R, HK9.out, fun k h => h.elim (fun h => (HO9.out k h).imp (fun h => (HU.out k).2 (.inl h)) id) (fun h => .inl ((HU.out k).2 (.inr h))), rfl, O9, preX, fun k h => .inl h, hX⟩
        · obtain ⟨pre9, hn9, hj9⟩ := HT9.out rfl
          clear HT9 HF9
          have HLN : Hid (LoopI J l zs O R len (y + 1) m wr (pre ++ [(⟨(k, (u : Int)), hx2⟩ : Bi ys)]).length (fun k => O9 k ∨ k = R) w8x) := Lib.hid ⟨O9, pre9, k, fun _ => Iff.rfl, by rw [hn9, HPJ.out, ← HBACK.out, List.length_append, List.length_singleton, show y + 1 - (pre.length + 1) = k by omega], hj9, HKX.out.trans' HK9.out fun k' hk' h => ⟨h, fun h' => ((HU.out k').1 h').elim (fun h'' => (HO1.out k' h'').elim h.1 (fun h3 => by omega)) h.2⟩, fun k' h => (HO9.out k' h).elim (fun h => (HO1.out k' h).imp id fun h => ⟨h.1, by have := HK9.out.size; omega⟩) (fun h => .inr ⟨by have := HKX.out.size; omega, h.2⟩), HR9.out, by rw [List.length_append, List.length_singleton]; omega, by omega⟩
          clear hn9 hj9
          gi_wp2
          exact ⟨fun k => O9 k ∨ k = R, HK9.out, fun k h => h.elim (fun h => (HO9.out k h).imp (fun h => (HU.out k).2 (.inl h)) id) (fun h => .inl ((HU.out k).2 (.inr h))), HLN.out⟩
      case done =>
        rintro D xsd U X hD hUD ⟨hxs1, hxs2⟩ ⟨O1, preJ, q, h1, h2, h3, h4, h5, h6, h7, h8⟩ hK
        have hL9 : nums preJ = toldG l 0 zs := by rw [h2, hxs2, Nat.sub_self, hL0.out]
        have kD : Keep (fun k => k < W.heap.size ∨ O1 k) X (X.putObj D (.deferred none)) := Keep.putObj _ _ _ (by rintro (h | h); omega; exact hUD ((h1 D).2 (.inl h)))
        have hJ9 := HJ.out _ _ _ _ h3 kD
        have HR9 := Lib.hid (And.intro hL9 hJ9)
        clear h1 h2 h3 h4 h5 h6 hL9 kD hJ9
        gi_wp2
        refine ⟨by simp, .inl ⟨_, _, rfl, run_takeDeferred hK, ?_⟩⟩
        exact ⟨_, results_none rfl _ _ _, ⟨_, rfl⟩, O1, .inl ⟨preJ, HR9.out.1, HR9.out.2⟩⟩
      case stop =>
        rintro D c pre U X hD hUD - ⟨rfl, O1, preX, h1, h2⟩ hK
        have kD : Keep (fun k => k < W.heap.size ∨ O1 k) X (X.putObj D (.deferred none)) := Keep.putObj _ _ _ (by rintro (h | h); omega; exact hUD (h1 D h))
        have HR9 := Lib.hid (HJX.out _ _ _ _ h2 kD)
        clear h1 h2 kD
        gi_wp2
        refine ⟨by simp, .inl ⟨_, _, rfl, run_takeDeferred hK, ?_⟩⟩
        exact ⟨_, results_none rfl _ _ _, ⟨_, rfl⟩, O1, .inr ⟨preX, trivial, HR9.out⟩⟩
    | some t =>
      obtain ⟨t1, t2⟩ := walk_range HC.out zs (i := 0) (by omega) t (by simpa using hwk)
      obtain ⟨u, rfl⟩ : ∃ u : Nat, t = (u : Int) := ⟨t.toNat, by omega⟩
      obtain ⟨g1, g2⟩ := (along_len l zs 0).1 _ hwk
      have hyE : y = m := by have := HYK.out; have := HZL.out; omega
      subst hyE
      have hun : u < len := by omega
      have hyu : y ≤ u := by
        have h1 := along_ge HC.out zs (i := 0) (by omega) y (by rw [Int.natCast_zero, HYK.out]; omega)
        rw [Int.natCast_zero, ← HZL.out, g2, HZL.out] at h1
        omega
      have hzt : zs.take y = zs := by rw [← HZL.out]; exact List.take_length
      have hgt : decide ((y : Int) + 1 > (y : Int)) = true := decide_eq_true (by omega)
      have hgn : y < y + 1 := by omega
      have hgi : (y : Int) < (y : Int) + 1 := by omega
      have cy : wr.cell? ⟨yb, y, none⟩ = some (.int .i64 (u : Int)) := by
        rw [HYR.out.cellAt y (by omega)]
        rw [HZL.out] at g2
        unfold i64s
        rw [List.getElem?_map, List.getElem?_eq_getElem (by rw [HYK.out]; omega)]
        rw [List.getD_eq_getElem?_getD, List.getElem?_eq_getElem (by rw [HYK.out]; omega)] at g2
        simpa using g2
      have HSK : Hid (∀ w', Keep (fun k => ¬ O k ∧ k ≠ R) wr w' → w'.cell? ⟨wn.heap.size, 0, none⟩ = some (.slice (some ⟨sb, so, none⟩) len cap) ∧ w'.cell? ⟨wn.heap.size, 1, none⟩ = some (.slice da len dc) ∧ w'.cell? ⟨wn.heap.size, 2, none⟩ = some (.slice (some ⟨wb, 0, none⟩) len wc) ∧ w'.cell? ⟨wn.heap.size, 3, none⟩ = some (.func (.yield yl) #[] #[]) ∧ w'.cell? ⟨B2, 0, none⟩ = some (.slice b y cap2) ∧ w'.cell? ⟨yb, y, none⟩ = some (.int .i64 (u : Int)) ∧ w'.cell? ⟨rb, 0, none⟩ = some (.slice (some ⟨R, 0, none⟩) y len)) := Lib.hid fun w' hk => by
        have hno : ∀ k, W.heap.size ≤ k → k ≠ R → ¬ O k ∧ k ≠ R := fun k h1 h2 => ⟨fun h => by have := (HO.out k h).2; omega, h2⟩
        have hz2 := HB2.out.size
        have g1 := hk.heap HTB.out (hno _ (by have := HBN.out.size; omega) (by omega))
        have g2 := hk.heap HRB.out (hno _ (by omega) (fun e => q3 e.symm))
        have g3 := hk.cell (HCC.out _ HBR.out).2 (show ¬ O B2 ∧ B2 ≠ R from ⟨fun h => (HO.out _ h).1 hR2, by omega⟩)
        exact ⟨by rw [cell_of_obj g1]; rfl, by rw [cell_of_obj g1]; rfl, by rw [cell_of_obj g1]; rfl, by rw [cell_of_obj g1]; rfl, g3, hk.cell cy (hno _ (by have := HBN.out.size; omega) (by have := (ownsRow_below HYO.out q6 (Nat.le_refl _)).lt yb rfl; have := (HYO.out.lt yb rfl).2; omega)), by rw [cell_of_obj g2]; rfl⟩
      have hbd2 : Below W.heap.size W wr.drew := HBR.out.trans (below_drawn (Below.refl _ _) ⟨1, rfl⟩)
      have hfirst : nums ([] : List Wd) ++ (told l u).map (zs ++ ·) <+: toldG l 0 zs := by
        rw [← hL0.out, ← told_end zs u hwk, show nums ([] : List Wd) = [] from rfl, List.nil_append]
        exact told_mono HC.out _ (Nat.le_refl _) (by omega)
      have HAC := Lib.hid (fun (k : Nat) => HALL.out u hun k [] zs O wr.drew (by rw [HZL.out]; exact hyu) (HTIN.out wr.drew [] zs _ (Keep.drew _ _) hbd2 ((hzt ▸ HRM.out).keep (Keep.drew (fun _ => True) _) trivial) (HJ0.out _ hbd2) hfirst))
      rw [HZL.out] at HAC
      unfold tv at HAC
      have hyl2 : y < y + 1 := by omega
      have hmin : min ((y : Int) + 1) (y : Int) = (y : Int) := by omega
      have hycc := HYR.out
      have hyc1 : (y : Int) ≤ (yc : Int) := by obtain ⟨g, cap', cur, e, _, _, h1, _⟩ := HYR.out.2.resolve_left (by rintro ⟨_, h⟩; omega); simp only [Value.slice.injEq] at e; omega
      clear hycc
      clear cy g1 g2 t1 t2 hfirst
      gi_wp2
      refine wpIn_region_held_drewN (S := (fun w' => w'.cell? ⟨wn.heap.size, 0, none⟩ = some (.slice (some ⟨sb, so, none⟩) len cap) ∧ w'.cell? ⟨wn.heap.size, 1, none⟩ = some (.slice da len dc) ∧ w'.cell? ⟨wn.heap.size, 2, none⟩ = some (.slice (some ⟨wb, 0, none⟩) len wc) ∧ w'.cell? ⟨wn.heap.size, 3, none⟩ = some (.func (.yield yl) #[] #[]) ∧ w'.cell? ⟨B2, 0, none⟩ = some (.slice b y cap2) ∧ w'.cell? ⟨yb, y, none⟩ = some (.int .i64 (u : Int)) ∧ w'.cell? ⟨rb, 0, none⟩ = some (.slice (some ⟨R, 0, none⟩) y len))) (by kernel_rfl) (by first | ((first | exact hS8 | exact HSK.out _ (Keep.drew _ wr))) | ((try dsimp only); (first | exact hS8 | exact HSK.out _ (Keep.drew _ wr)))) (fun hHeld => ?_)
      refine wpAnyHIn_take hfn (by kernel_rfl) (i := 0) (v := ?vra1) rfl (by kernel_rfl) (by kernel_rfl) (by kernel_rfl) (fun _ _ _ h => h) (Or.inl ⟨by rfl, ?hra1⟩) (by assumption) ?rra1
      case hra1 => intro w hSw; (try dsimp only at hSw); go_simp; try with_reducible rfl
      simp only [Act.put, List.getElem_toArray, List.getElem_cons_succ, List.getElem_cons_zero, List.setIfInBounds_toArray, List.set_cons_succ, List.set_cons_zero]
      refine wpAnyHIn_take hfn (by kernel_rfl) (i := 1) (v := ?vra4) rfl (by kernel_rfl) (by kernel_rfl) (by kernel_rfl) (fun _ _ _ h => h) (Or.inl ⟨by rfl, ?hra4⟩) (by assumption) ?rra4
      case hra4 => intro w hSw; (try dsimp only at hSw); go_simp; try with_reducible rfl
      simp only [Act.put, List.getElem_toArray, List.getElem_cons_succ, List.getElem_cons_zero, List.setIfInBounds_toArray, List.set_cons_succ, List.set_cons_zero]
      refine wpAnyHIn_take hfn (by kernel_rfl) (i := 2) (v := ?vra7) rfl (by kernel_rfl) (by kernel_rfl) (by kernel_rfl) (fun _ _ _ h => h) (Or.inl ⟨by rfl, ?hra7⟩) (by assumption) ?rra7
      case hra7 => intro w hSw; (try dsimp only at hSw); go_simp; try with_reducible rfl
      simp only [Act.put, List.getElem_toArray, List.getElem_cons_succ, List.getElem_cons_zero, List.setIfInBounds_toArray, List.set_cons_succ, List.set_cons_zero]
      refine wpAnyHIn_take hfn (by kernel_rfl) (i := 3) (v := ?vra10) rfl (by kernel_rfl) (by kernel_rfl) (by kernel_rfl) (fun _ _ _ h => h) (Or.inl ⟨by rfl, ?hra10⟩) (by assumption) ?rra10
      case hra10 => intro w hSw; (try dsimp only at hSw); go_simp; try with_reducible rfl
      simp only [Act.put, List.getElem_toArray, List.getElem_cons_succ, List.getElem_cons_zero, List.setIfInBounds_toArray, List.set_cons_succ, List.set_cons_zero]
      refine wpAnyHIn_take hfn (by kernel_rfl) (i := 4) (v := ?vra13) rfl (by kernel_rfl) (by kernel_rfl) (by kernel_rfl) (fun _ _ _ h => h) (Or.inl ⟨by rfl, ?hra13⟩) (by assumption) ?rra13
      case hra13 => intro w hSw; (try dsimp only at hSw); go_simp; try with_reducible rfl
      simp only [Act.put, List.getElem_toArray, List.getElem_cons_succ, List.getElem_cons_zero, List.setIfInBounds_toArray, List.set_cons_succ, List.set_cons_zero]
      refine wpAnyHIn_take hfn (by kernel_rfl) (i := 5) (v := ?vra16) rfl (by kernel_rfl) (by kernel_rfl) (by kernel_rfl) (fun _ _ _ h => h) (Or.inl ⟨by rfl, ?hra16⟩) (by assumption) ?rra16
      case hra16 => intro w hSw; (try dsimp only at hSw); go_simp; try with_reducible rfl
      simp only [Act.put, List.getElem_toArray, List.getElem_cons_succ, List.getElem_cons_zero, List.setIfInBounds_toArray, List.set_cons_succ, List.set_cons_zero]
      refine wpAnyHIn_take hfn (by kernel_rfl) (i := 6) (v := ?vra19) rfl (by kernel_rfl) (by kernel_rfl) (by kernel_rfl) (fun _ _ _ h => h) (Or.inl ⟨by rfl, ?hra19⟩) (by assumption) ?rra19
      case hra19 => intro w hSw; (try dsimp only at hSw); go_simp; try with_reducible rfl
      simp only [Act.put, List.getElem_toArray, List.getElem_cons_succ, List.getElem_cons_zero, List.setIfInBounds_toArray, List.set_cons_succ, List.set_cons_zero]
      refine wpAnyHIn_take hfn (by kernel_rfl) (i := 7) (v := ?vra22) rfl (by kernel_rfl) (by kernel_rfl) (by kernel_rfl) (fun _ _ _ h => h) (Or.inl ⟨by rfl, ?hra22⟩) (by assumption) ?rra22
      case hra22 => intro w hSw; (try dsimp only at hSw); go_simp; try with_reducible rfl
      simp only [Act.put, List.getElem_toArray, List.getElem_cons_succ, List.getElem_cons_zero, List.setIfInBounds_toArray, List.set_cons_succ, List.set_cons_zero]
      refine wpAnyHIn_take hfn (by kernel_rfl) (i := 8) (v := ?vra25) rfl (by kernel_rfl) (by kernel_rfl) (by kernel_rfl) (fun _ _ _ h => h) (Or.inl ⟨by rfl, ?hra25⟩) (by assumption) ?rra25
      case hra25 => intro w hSw; (try dsimp only at hSw); go_simp; try with_reducible rfl
      simp only [Act.put, List.getElem_toArray, List.getElem_cons_succ, List.getElem_cons_zero, List.setIfInBounds_toArray, List.set_cons_succ, List.set_cons_zero]
      refine wpAnyHIn_take hfn (by kernel_rfl) (i := 9) (v := ?vra28) rfl (by kernel_rfl) (by kernel_rfl) (by kernel_rfl) (fun _ _ _ h => h) (Or.inl ⟨by rfl, ?hra28⟩) (by assumption) ?rra28
      case hra28 => intro w hSw; (try dsimp only at hSw); go_simp; try with_reducible rfl
      simp only [Act.put, List.getElem_toArray, List.getElem_cons_succ, List.getElem_cons_zero, List.setIfInBounds_toArray, List.set_cons_succ, List.set_cons_zero]
      refine wpAnyHIn_take hfn (by kernel_rfl) (i := 10) (v := ?vra31) rfl (by kernel_rfl) (by kernel_rfl) (by kernel_rfl) (fun _ _ _ h => h) (Or.inl ⟨by rfl, ?hra31⟩) (by assumption) ?rra31
      case hra31 => intro w hSw; (try dsimp only at hSw); go_simp; try with_reducible rfl
      simp only [Act.put, List.getElem_toArray, List.getElem_cons_succ, List.getElem_cons_zero, List.setIfInBounds_toArray, List.set_cons_succ, List.set_cons_zero]
      refine wpAnyHIn_take hfn (by kernel_rfl) (i := 11) (v := ?vra34) rfl (by kernel_rfl) (by kernel_rfl) (by kernel_rfl) (fun _ _ _ h => h) (Or.inl ⟨by rfl, ?hra34⟩) (by assumption) ?rra34
      case hra34 => intro w hSw; (try dsimp only at hSw); go_simp; try with_reducible rfl
      simp only [Act.put, List.getElem_toArray, List.getElem_cons_succ, List.getElem_cons_zero, List.setIfInBounds_toArray, List.set_cons_succ, List.set_cons_zero]
      refine wpAnyHIn_take hfn (by kernel_rfl) (i := 12) (v := ?vra37) rfl (by kernel_rfl) (by kernel_rfl) (by kernel_rfl) (fun _ _ _ h => h) (Or.inl ⟨by rfl, ?hra37⟩) (by assumption) ?rra37
      case hra37 => intro w hSw; (try dsimp only at hSw); go_simp; try with_reducible rfl
      simp only [Act.put, List.getElem_toArray, List.getElem_cons_succ, List.getElem_cons_zero, List.setIfInBounds_toArray, List.set_cons_succ, List.set_cons_zero]
      refine wpAnyHIn_ready (rs := [13]) (by kernel_rfl) (by simp) ?_
      refine AllReadyHIn.cons hfn rfl (fun K hK => ?_) AllReadyHIn.nil
      go_simp
      gi_at_call 56
      refine (HAC.out _).mono ?_
      rintro e w8 ⟨b8, O8, rfl, hk8, ho8, hr8, ht8, hf8⟩
      have hS8 := HSK.out w8 ((Keep.drew _ wr).trans hk8)
      have HK8 := Lib.hid hk8
      have HO8 := Lib.hid ho8
      have HR8 := Lib.hid hr8
      have HT8 := Lib.hid ht8
      have HF8 := Lib.hid hf8
      clear hk8 ho8 hr8 ht8 hf8
      gi_wp2_with fail
      refine hK.out _ _ (by first | ((first | exact hS8 | exact HSK.out _ (Keep.drew _ wr))) | ((try dsimp only); (first | exact hS8 | exact HSK.out _ (Keep.drew _ wr)))) (fun hHeld => ?_)
      clear hK K
      try simp only [Act.put, List.getElem_toArray, List.getElem_cons_succ, List.getElem_cons_zero, List.setIfInBounds_toArray, List.set_cons_succ, List.set_cons_zero]
      refine wpAnyHIn_take hfn (by kernel_rfl) (i := 14) (v := ?vra57) rfl (by kernel_rfl) (by kernel_rfl) (by kernel_rfl) (fun _ _ _ h => h) (Or.inl ⟨by rfl, ?hra57⟩) (by assumption) ?rra57
      case hra57 => intro w hSw; (try dsimp only at hSw); go_simp; try with_reducible rfl
      simp only [Act.put, List.getElem_toArray, List.getElem_cons_succ, List.getElem_cons_zero, List.setIfInBounds_toArray, List.set_cons_succ, List.set_cons_zero]
      refine wpAnyHIn_take hfn (by kernel_rfl) (i := 15) (v := ?vra60) rfl (by kernel_rfl) (by kernel_rfl) (by kernel_rfl) (fun _ _ _ h => h) (Or.inl ⟨by rfl, ?hra60⟩) (by assumption) ?rra60
      case hra60 => intro w hSw; (try dsimp only at hSw); go_simp; try with_reducible rfl
      simp only [Act.put, List.getElem_toArray, List.getElem_cons_succ, List.getElem_cons_zero, List.setIfInBounds_toArray, List.set_cons_succ, List.set_cons_zero]
      refine wpAnyHIn_done (by kernel_rfl) ?_ _
      simp only [onlyN]
      clear hHeld
      cases b8
      · have HF9 := Lib.hid (HF8.out rfl)
        clear HT8 HF8
        gi_wp2
        obtain ⟨preX, hX⟩ := HF9.out
        exact ⟨_, results_none rfl _ _ _, ⟨_, rfl⟩, O8, .inr ⟨preX, trivial, hX⟩⟩
      · obtain ⟨pre8, hn8, hj8⟩ := HT8.out rfl
        clear HT8 HF8
        have HLI : Hid (LoopI J l zs O R len y y wr 0 (fun k => O8 k ∨ k = R) w8) := Lib.hid ⟨O8, pre8, y, fun _ => Iff.rfl, by rw [hn8, Nat.sub_zero, show nums ([] : List Wd) = [] from rfl, List.nil_append, ← told_end zs u hwk, HZL.out], hj8, (Keep.drew _ wr).trans HK8.out, HO8.out, by rw [hzt]; exact HR8.out, by omega, Nat.le_refl _⟩
        have hzw8 : wr.heap.size ≤ w8.heap.size := HK8.out.size
        have hyj : y ≤ y + 1 := by omega
        clear hn8 hj8 HK8 HO8 HR8
        gi_wp2_with (gi_at_call 57; refine (backwardI_in F _ (hfn _) hro _ _ _ _).mono ?_; rintro e w9 ⟨rfl, rfl⟩)
        obtain ⟨ys, hys⟩ : ∃ ys, ys = (Wlk.along l 0 zs).take (y) := ⟨_, rfl⟩
        have hysl : ys.length = y := by rw [hys, List.length_take, HYK.out]; omega
        have hRb0 : R < wr.heap.size := by obtain ⟨cur, hcc, _⟩ := HRM.out.obj; exact (Array.getElem?_eq_some_iff.1 hcc).1
        obtain ⟨X5, hX5⟩ : ∃ X5, X5 = w8.alloc (.cells #[.slice (some ⟨yb, 0, none⟩) (y) yc] 23) := ⟨_, rfl⟩
        obtain ⟨xb, hxb⟩ : ∃ xb, xb = w8.heap.size := ⟨_, rfl⟩
        have zX5 : X5.heap.size = xb + 1 := by rw [hX5, hxb]; simp
        have hk5 : ∀ S, Keep S w8 X5 := fun S => by rw [hX5]; exact Keep.alloc S w8 _
        have hc5 : X5.cell? ⟨xb, 0, none⟩ = some (.slice (some ⟨yb, 0, none⟩) (y) yc) := by rw [hX5, hxb, cell_of_obj (heap_alloc_new w8 _)]; rfl
        have hLI5 := loopI_keep (base' := X5.heap.size) HJ.out (by omega) (by omega) (by omega) HLI.out (hk5 _)
        have hyw : W.heap.size ≤ yb ∧ yb < wl.heap.size := ⟨by have h1 := (HYO.out.lt yb rfl).1; have := HBN.out.size; simp at h1; omega, (HYO.out.lt yb rfl).2⟩
        obtain ⟨U0, hU0⟩ : ∃ U0 : Nat → Prop, U0 = fun k => O8 k ∨ k = R := ⟨_, rfl⟩
        rw [← hU0] at hLI5
        have hUR : ∀ k, U0 k → ¬ (k = xb ∨ k = yb) ∧ k < X5.heap.size := by
          obtain ⟨O1, preJ, q, h1, h2, h3, h4, h5, h6, h7, h8⟩ := HLI.out
          intro k h
          rw [hU0] at h
          have h' := (h1 k).1 h
          rcases h' with h' | h'
          · rcases h5 k h' with h9 | h9
            · have := (HO.out k h9).2; exact ⟨by rintro (e | e) <;> omega, by omega⟩
            · exact ⟨by rintro (e | e) <;> omega, by omega⟩
          · exact ⟨by rintro (e | e) <;> omega, by omega⟩
        have hslY : Sl .i64 X5 (some ⟨yb, 0, none⟩) (y) yc ys := by
          have h1 : Sl .i64 wr (some ⟨yb, 0, none⟩) (y + 1) yc (Wlk.along l 0 zs) := Sl.of_owns HYR.out (fun z hz => by
            obtain ⟨i, hi, rfl⟩ := List.getElem_of_mem hz
            have h := along_at HC.out zs (i := 0) (by omega) i (by rw [Int.natCast_zero]; exact hi)
            rw [Int.natCast_zero, List.getD_eq_getElem?_getD, List.getElem?_eq_getElem hi, Option.getD_some] at h
            exact WalkArith.wf_i64 (by omega)) HYK.out
          have h2 := h1.cut (k := y) (by omega)
          rw [← hys] at h2
          obtain ⟨O1, preJ, q, _, _, _, h4, _⟩ := HLI.out
          exact (h2.keep h4 (fun b' off e => by simp only [Option.some.injEq, Addr.mk.injEq] at e; obtain ⟨rfl, _⟩ := e; exact ⟨fun h => by have := (HO.out yb h).2; omega, by omega⟩)).keep (hk5 (fun _ => True)) (fun _ _ _ => trivial)
        rw [← hX5, ← hxb]
        clear hX5 hk5
        have HLI5 := Lib.hid hLI5
        have HYS := Lib.hid hys
        have HYSL := Lib.hid hysl
        have hRb : R < X5.heap.size := by omega
        have hxbz : wr.heap.size ≤ xb := by omega
        clear hLI5 hys HLI hxb
        refine wpIn_range_iterR hro (fun h => by rw [hd] at h; cases h) (gf := 75) (lb := #[.pointer (some ⟨xb, 0, none⟩)]) rfl (hfn _) (enters_of Try.func75 (by kernel_rfl) rfl)
          (encs := biv (zs := ys)) (Rd := fun k => k = xb ∨ k = yb) (T := BackI ys) (At := fun _ _ => True) (S := fun xs => BackI ys xs ∧ xs.length = y) (Sp := fun _ => True) (N := y) (w0 := X5)
          (backwardI_iter F (n - 1) hfn hro hd xb (some ⟨yb, 0, none⟩) (y) yc ys X5 hslY (by omega) (fun k => k = xb ∨ k = yb) (fun b' off e => by simp only [Option.some.injEq, Addr.mk.injEq] at e; exact .inr e.1.symm) (.inl rfl) (by rintro k (rfl | rfl) <;> omega) hc5)
          (fun _ _ _ _ _ h _ => trivial) (Keep.refl _ _) (by rintro k (rfl | rfl) <;> omega) (fun _ => rfl)
          (fun pre U X => LoopI J l zs O R len (y) y wr pre.length U X) (fun c pre U X => LoopX Jx c U X) (fun _ _ _ _ h hk => loopI_keep HJ.out (by omega) (by omega) hRb h hk) (fun _ _ _ _ _ h hk => loopX_keep HJX.out (by omega) h hk)
          U0 hUR HLI5.out
          (fun x => { tmps := #[.func (.yield yl) #[] #[], .pointer (some ⟨B1, 0, none⟩), .pointer (some ⟨B2, 0, none⟩), undef, .pointer (some ⟨wn.heap.size, 0, none⟩), .slice (some ⟨yb, 0, none⟩) (y + 1) yc, .pointer (some ⟨rb, 0, none⟩), .int .i64 (x.1.1 : Int), .int .i64 x.1.2, .slice (some ⟨sb, so, none⟩) len cap, .func (.yield yl) #[] #[], .agg #[.slice (some ⟨sb, so, none⟩) len cap, .slice da len dc, .slice (some ⟨wb, 0, none⟩) len wc, .func (.yield yl) #[] #[]], .slice (some ⟨sb, so, none⟩) len cap, .slice b y cap2, .slice (some ⟨yb, 0, none⟩) (y + 1) yc, .slice (some ⟨sb, so, none⟩) len cap, .int .i64 (len : Int), .slice (some ⟨R, 0, none⟩) 0 len, .slice b y cap2, .slice (some ⟨yb, 0, none⟩) (y + 1) yc, .int .i64 ((y : Int) + 1), .int .i64 (y : Int), .slice b y cap2, .slice (some ⟨R, 0, none⟩) y len, .slice (some ⟨yb, 0, none⟩) (y + 1) yc, .int .i64 ((y : Int) + 1), .slice b y cap2, .int .i64 (y : Int), .bool true, .bool true, .agg #[.slice (some ⟨sb, so, none⟩) len cap, .slice da len dc, .slice (some ⟨wb, 0, none⟩) len wc, .func (.yield yl) #[] #[]], .slice (some ⟨yb, 0, none⟩) (y + 1) yc, .slice b y cap2, .int .i64 (y : Int), .pointer (some ⟨yb, y, none⟩), .int .i64 (u : Int), .slice (some ⟨R, 0, none⟩) y len, .bool true, .bool false, .bool false, .slice (some ⟨yb, 0, none⟩) (y + 1) yc, .slice (some ⟨yb, 0, none⟩) (y + 1) yc, .int .i64 ((y : Int) + 1), .slice b y cap2, .int .i64 (y : Int), .int .i64 ((y : Int)), .slice (some ⟨yb, 0, none⟩) (y) yc, .func (.func 75) #[] #[.pointer (some ⟨xb, 0, none⟩)], .int .i64 (x.1.1 : Int), .int .i64 x.1.2, undef, undef, undef, undef, undef, undef, undef, undef, undef, undef, undef, undef, undef], defers := [] }) ?assign ?body ?done ?stop
        case assign =>
          intro l2 x X K' hK'
          simp only [biv]
          gi_wp2
          exact hK'
        case body =>
          rintro l2 pre x U X hTx - ⟨O1, preJ, q, h1, h2, h3, h4, h5, h6, h7, h8⟩ hlt hsz2
          have hlast := hTx.last
          obtain ⟨⟨⟨k, uI⟩, hx2⟩, hxe⟩ : ∃ y, y = x := ⟨x, rfl⟩
          subst hxe
          simp only at hlast hx2 ⊢
          rw [HYSL.out] at hlast
          obtain ⟨u, rfl⟩ : ∃ u : Nat, uI = (u : Int) := by
            have h := (along_at HC.out zs (i := 0) (by omega) k (by rw [Int.natCast_zero, HYK.out]; omega)).1
            rw [Int.natCast_zero] at h
            have e := hx2.2
            rw [HYS.out, List.getD_eq_getElem?_getD, List.getElem?_take_of_lt (by omega), ← List.getD_eq_getElem?_getD] at e
            exact ⟨uI.toNat, by omega⟩
          have hway : (Wlk.along l 0 zs).getD k 0 = (u : Int) := by
            have e := hx2.2
            rwa [HYS.out, List.getD_eq_getElem?_getD, List.getElem?_take_of_lt (by omega), ← List.getD_eq_getElem?_getD] at e
          have hun2 : u < len := by
            have h := (along_at HC.out zs (i := 0) (by omega) k (by rw [Int.natCast_zero, HYK.out]; omega)).2
            rw [Int.natCast_zero, hway] at h; omega
          have hku : k ≤ u := by
            have h := along_ge HC.out zs (i := 0) (by omega) k (by rw [Int.natCast_zero, HYK.out]; omega)
            rw [Int.natCast_zero, hway] at h; omega
          have hkm : k < y := by omega
          obtain ⟨s, hs⟩ : ∃ s, s = zs.getD k 0 := ⟨_, rfl⟩
          have hno : ∀ k', W.heap.size ≤ k' → k' < wr.heap.size → k' ≠ R → ¬ O1 k' ∧ k' ≠ R := fun k' e1 e2 e3 => ⟨fun h => (h5 k' h).elim (fun h => by have := (HO.out k' h).2; omega) (fun h => by omega), e3⟩
          have hnoR : ∀ k', Rd k' → ¬ O1 k' ∧ k' ≠ R := fun k' e1 => by
            have hz : k' < W.heap.size := HRW.out k' e1
            exact ⟨fun h => (h5 k' h).elim (fun h => (HO.out k' h).1 e1) (fun h => by omega), by omega⟩
          have hb0X : Below W0.heap.size W0 X := (HBW.out.trans (HBR.out.mono hzW)).trans (h4.below (by omega) (fun k' hk' => ⟨fun h => (HO.out k' h).1 (hR0 k' hk'), by omega⟩))
          obtain ⟨gb, go, rfl, hgb, hgc⟩ := HZ.out.at (by omega)
          have hgc1 := hgc k hkm
          rw [← hs] at hgc1
          have hgX : X.cell? ⟨gb, go + k, none⟩ = some (.int .i64 s) := by rw [hb0X.cell (p := ⟨gb, go + k, none⟩) hgb]; exact hgc1
          have hwnl : W.heap.size ≤ wn.heap.size := HBN.out.size
          have hwlr : wl.heap.size ≤ wr.heap.size := q6.size
          have HSK : Hid (∀ w', Keep (fun k' => ¬ O1 k' ∧ k' ≠ R) X w' → w'.cell? ⟨wn.heap.size, 0, none⟩ = some (.slice (some ⟨sb, so, none⟩) len cap) ∧ w'.cell? ⟨wn.heap.size, 1, none⟩ = some (.slice da len dc) ∧ w'.cell? ⟨wn.heap.size, 2, none⟩ = some (.slice (some ⟨wb, 0, none⟩) len wc) ∧ w'.cell? ⟨wn.heap.size, 3, none⟩ = some (.func (.yield yl) #[] #[]) ∧ w'.cell? ⟨B2, 0, none⟩ = some (.slice (some ⟨gb, go, none⟩) y cap2) ∧ w'.cell? ⟨gb, go + k, none⟩ = some (.int .i64 s) ∧ w'.cell? ⟨rb, 0, none⟩ = some (.slice (some ⟨R, 0, none⟩) y len)) := Lib.hid fun w' hk => by
            have g1 := (h4.trans' hk (U := fun k' => k' = wn.heap.size) fun k' hk' e => by subst e; have := hno wn.heap.size hwnl (by omega) (by omega); exact ⟨⟨fun h => by have := (HO.out _ h).2; omega, this.2⟩, this⟩).heap HTB.out rfl
            have g2 := (h4.trans' hk (U := fun k' => k' = rb) fun k' hk' e => by have e' : k' = rb := e; rw [e']; have := hno rb (by omega) (by omega) (fun e => q3 e.symm); exact ⟨⟨fun h => by have := (HO.out _ h).2; omega, this.2⟩, this⟩).heap HRB.out rfl
            have g3 := (h4.trans' hk (U := fun k' => k' = B2) fun k' hk' e => by have e' : k' = B2 := e; rw [e']; have := hnoR B2 hR2; exact ⟨⟨fun h => (HO.out _ h).1 hR2, this.2⟩, this⟩).cell (HCC.out _ HBR.out).2 rfl
            exact ⟨by rw [cell_of_obj g1]; rfl, by rw [cell_of_obj g1]; rfl, by rw [cell_of_obj g1]; rfl, by rw [cell_of_obj g1]; rfl, g3, hk.cell hgX (hnoR gb (hR0 gb hgb)), by rw [cell_of_obj g2]; rfl⟩
          have hdsX : Sl .i64 X da len dc ds := by
            refine (HDS.out.keep HKN.out (fun b' off e => ⟨HDN.out b' off e, ?_⟩)).keep h4 (fun b' off e => ?_)
            · obtain ⟨b2, off2, e2, hlt2, _⟩ := HDS.out.at (by omega)
              rw [e] at e2; simp only [Option.some.injEq, Addr.mk.injEq] at e2; omega
            · have := HDN.out b' off e
              obtain ⟨b2, off2, e2, hlt2, _⟩ := HDS.out.at (by omega)
              rw [e] at e2; simp only [Option.some.injEq, Addr.mk.injEq] at e2
              exact ⟨fun h => by have := (HO.out b' h).2; omega, by omega⟩
          have HAF : Hid (∀ m', CallsIn (F.inRound l2) m' Try.prog 59 #[.agg #[.slice (some ⟨sb, so, none⟩) len cap, .slice da len dc, .slice (some ⟨wb, 0, none⟩) len wc, .func (.yield yl) #[] #[]], .int .i64 (u : Int), .int .i64 s] X.drew
              fun e w' => ∃ aa ak ac, e = .returned (.slice aa ak ac) ∧ (goes l u s).length = ak ∧ w'.ownsRow X.drew.heap.size 59 2 (.slice aa ak ac) ak (acells (goes l u s)) ∧ Below X.drew.heap.size X.drew w') := Lib.hid fun m' => by
            refine (HAFT.out m' u s da (some ⟨wb, 0, none⟩) dc wc ds X.drew (by omega) ((HX.out.below hb0X (Nat.le_refl _)).drew) (hdsX.drew) HDV.out).inRound l2
          have HBACK := Lib.hid (told_back HC.out (w := zs) (k := k) (s := s) (u := u) (by rw [HYK.out]; omega) (by rw [HZL.out]; exact hkm) hs.symm hway)
          have HPJ : Hid (nums preJ = told_at_ l zs (k + 1)) := Lib.hid (by rw [h2]; congr 1; omega)
          have HU := Lib.hid h1
          have HKX := Lib.hid h4
          have HO1 := Lib.hid h5
          have HBYC : Hid (∀ (w7 : World) (aa : Option Addr) (ak ac : Nat), Below X.heap.size X w7 → (goes l u s).length = ak → w7.ownsRow X.drew.heap.size 59 2 (.slice aa ak ac) ak (acells (goes l u s)) → ∀ m', CallsIn (F.inRound l2) m' Try.prog 58 #[.agg #[.slice (some ⟨sb, so, none⟩) len cap, .slice da len dc, .slice (some ⟨wb, 0, none⟩) len wc, .func (.yield yl) #[] #[]], .slice aa ak ac, .slice (some ⟨R, 0, none⟩) k len] w7
              (Tout R len J Jx preJ (zs.take k) ((byA l (goes l u s)).map (zs.take k ++ ·)) O1 w7)) := Lib.hid fun w7 aa ak ac hb7 hak hown m' => by
            have hgz : ∀ z ∈ goes l u s, (Lit.int .i64 z.1).wf = true ∧ (Lit.int .i64 z.2).wf = true := fun z hz => by
              obtain ⟨e1, e2, e3⟩ := (check_arcs HC.out (by rw [HLE.out]; exact hun2)).1 z (goes_mem hz).1
              have := (Utf.good_iff _).1 e1
              rw [HLE.out] at e3
              exact ⟨WalkArith.wf_i64 (by omega), WalkArith.wf_i64 (by omega)⟩
            have hars := Ars.of_owns hown hgz hak
            obtain ⟨K', hK'⟩ : ∃ K' : Nat → Prop, K' = fun k' => (K k' ∨ X.heap.size ≤ k') ∧ k' < w7.heap.size := ⟨_, rfl⟩
            have hz7 := hb7.size
            have hzX := h4.size
            have hrow : Arow K' w7 aa ak (goes l u s) := by
              refine ⟨hak, ?_⟩
              rcases hars.2.2.2.2 with h0 | ⟨b', off, ha, hcs⟩
              · exact .inl h0
              · by_cases hz : ak = 0
                · exact .inl hz
                · refine .inr ⟨b', off, ha, ?_, hcs⟩
                  obtain ⟨g, cap2', cur2, e2, hB2', hh2, _⟩ := hown.2.resolve_left (by rintro ⟨_, h⟩; exact hz h)
                  simp only [Value.slice.injEq] at e2
                  have e3 := e2.1
                  rw [ha] at e3
                  simp only [Option.some.injEq, Addr.mk.injEq] at e3
                  rw [hK']
                  exact ⟨.inr (by rw [e3.1]; exact hB2'), by rw [e3.1]; exact (Array.getElem?_eq_some_iff.1 hh2).1⟩
            have hKlt : ∀ k', K k' → k' < wr.heap.size ∧ k' ≠ R := fun k' h => by rw [HKD.out] at h; exact h.2
            have hK7 : Keep K wr w7 := (h4.trans ((Keep.of_below hb7).mono fun k' hk' _ => hk')).mono fun k' hk' h => by
              rw [HKD.out] at h
              exact ⟨fun h' => h.1.elim (fun e => (HO.out k' h').1 e) (fun e => by have := (HO.out k' h').2; omega), h.2.2⟩
            have hall : ∀ i, i < len → AllAt F W.heap.size K' l len sb so cap wb 0 wc len dc yl da R J Jx (toldG l 0 zs) i := fun i hi => tall_at F hfn hro hd HC.out W.heap.size K' len sb so cap wb 0 wc len dc yl da R J Jx (toldG l 0 zs) HLE.out.symm hl6 ⟨hcp, by unfold maxLen; exact hcm⟩ ⟨hwc1, hwc2⟩ HJ.out HYD.out len i hi (by omega)
            have hroom : Room R len (zs.take k) w7 := by
              have h9 : zs.take q = zs.take k ++ (zs.take q).drop k := by
                have := List.take_append_drop k (zs.take q)
                rw [List.take_take, Nat.min_eq_left (by omega)] at this
                exact this.symm
              rw [h9] at h6
              exact h6.cut.keep (Keep.of_below hb7) (by obtain ⟨cur, hcc, _⟩ := h6.obj; exact (Array.getElem?_eq_some_iff.1 hcc).1)
            have hin : Tin W.heap.size K' l len sb so wb 0 R J (toldG l 0 zs) preJ (zs.take k) ((byA l (goes l u s)).map (zs.take k ++ ·)) O1 w7 := by
              refine ⟨(HTEL.out.keep hK7).mono fun k' h => ?_, hroom, HJ.out _ _ _ _ h3 ((Keep.of_below hb7).mono fun k' hk' _ => hk'), ?_, fun k' h h' => ?_, fun h => ?_, fun h => ?_, by omega, by omega, fun k' h => ?_, fun k' h => ?_⟩
              · rw [hK']; exact ⟨.inl h, by have := (hKlt k' h).1; omega⟩
              · rw [HPJ.out, ← HBACK.out, ← hL0.out]
                exact told_mono HC.out k (by rw [HZL.out]; omega) (by rw [HYK.out]; omega)
              · rw [hK'] at h'
                rcases h'.1 with e | e
                · have e9 := e
                  rw [HKD.out] at e9
                  rcases h5 k' h with e2 | e2
                  · exact e9.1.elim (fun e => (HO.out k' e2).1 e) (fun e => by have := (HO.out k' e2).2; omega)
                  · omega
                · rcases h5 k' h with e2 | e2
                  · have := (HO.out k' e2).2; omega
                  · omega
              · rw [hK'] at h; exact h.1.elim (fun e => (hKlt R e).2 rfl) (fun e => by omega)
              · exact (h5 R h).elim (fun e => by have := (HO.out R e).2; omega) (fun e => by omega)
              · rw [hK'] at h; exact h.2
              · exact (h5 k' h).elim (fun e => by have := (HO.out k' e).2; omega) (fun e => by omega)
            have hcall := by_in F hfn hro hd HC.out W.heap.size K' len sb so cap wb 0 wc len dc yl da R J Jx (toldG l 0 zs) HLE.out.symm hl6 HJ.out u hun2 (goes l u s) (fun a ha => (goes_mem ha).1) (fun u' _ h => hall u' h) m' aa ak ac preJ (zs.take k) O1 w7 (by rw [List.length_take]; omega) hars.2.1 hars.2.2.1 hrow hin
            rw [List.length_take, HZL.out, Nat.min_eq_left (by omega)] at hcall
            unfold tv at hcall
            exact hcall.inRound l2
          have hki : (k : Int) < (y : Int) := by omega
          have hk0 : (0 : Int) ≤ (k : Int) := by omega
          have hkl : (k : Int) ≤ (len : Int) := by omega
          have hfnr : ∀ f, (F.inRound l2).fn f := hfn
          clear h1 h2 h3 h4 h5 h6 hgc hgc1 hgX hdsX hb0X hno hnoR hs hway hTx
          gi_wp2
          refine wpIn_region_held_drew (S := (fun w' => w'.cell? ⟨wn.heap.size, 0, none⟩ = some (.slice (some ⟨sb, so, none⟩) len cap) ∧ w'.cell? ⟨wn.heap.size, 1, none⟩ = some (.slice da len dc) ∧ w'.cell? ⟨wn.heap.size, 2, none⟩ = some (.slice (some ⟨wb, 0, none⟩) len wc) ∧ w'.cell? ⟨wn.heap.size, 3, none⟩ = some (.func (.yield yl) #[] #[]) ∧ w'.cell? ⟨B2, 0, none⟩ = some (.slice (some ⟨gb, go, none⟩) y cap2) ∧ w'.cell? ⟨gb, go + k, none⟩ = some (.int .i64 s) ∧ w'.cell? ⟨rb, 0, none⟩ = some (.slice (some ⟨R, 0, none⟩) y len))) (by kernel_rfl) (by first | ((first | exact hS8 | exact hS7 | exact HSK.out _ (Keep.drew _ X))) | ((try dsimp only); (first | exact hS8 | exact hS7 | exact HSK.out _ (Keep.drew _ X)))) (fun hHeld => ?_)
          refine wpAnyHIn_take hfnr (by kernel_rfl) (i := 0) (v := ?vrlA1) rfl (by kernel_rfl) (by kernel_rfl) (by kernel_rfl) (fun _ _ _ h => h) (Or.inl ⟨by rfl, ?hrlA1⟩) (by assumption) ?rrlA1
          case hrlA1 => intro w hSw; (try dsimp only at hSw); go_simp; try with_reducible rfl
          simp only [Act.put, List.getElem_toArray, List.getElem_cons_succ, List.getElem_cons_zero, List.setIfInBounds_toArray, List.set_cons_succ, List.set_cons_zero]
          refine wpAnyHIn_take hfnr (by kernel_rfl) (i := 1) (v := ?vrlA4) rfl (by kernel_rfl) (by kernel_rfl) (by kernel_rfl) (fun _ _ _ h => h) (Or.inl ⟨by rfl, ?hrlA4⟩) (by assumption) ?rrlA4
          case hrlA4 => intro w hSw; (try dsimp only at hSw); go_simp; try with_reducible rfl
          simp only [Act.put, List.getElem_toArray, List.getElem_cons_succ, List.getElem_cons_zero, List.setIfInBounds_toArray, List.set_cons_succ, List.set_cons_zero]
          refine wpAnyHIn_take hfnr (by kernel_rfl) (i := 2) (v := ?vrlA7) rfl (by kernel_rfl) (by kernel_rfl) (by kernel_rfl) (fun _ _ _ h => h) (Or.inl ⟨by rfl, ?hrlA7⟩) (by assumption) ?rrlA7
          case hrlA7 => intro w hSw; (try dsimp only at hSw); go_simp; try with_reducible rfl
          simp only [Act.put, List.getElem_toArray, List.getElem_cons_succ, List.getElem_cons_zero, List.setIfInBounds_toArray, List.set_cons_succ, List.set_cons_zero]
          refine wpAnyHIn_take hfnr (by kernel_rfl) (i := 3) (v := ?vrlA10) rfl (by kernel_rfl) (by kernel_rfl) (by kernel_rfl) (fun _ _ _ h => h) (Or.inl ⟨by rfl, ?hrlA10⟩) (by assumption) ?rrlA10
          case hrlA10 => intro w hSw; (try dsimp only at hSw); go_simp; try with_reducible rfl
          simp only [Act.put, List.getElem_toArray, List.getElem_cons_succ, List.getElem_cons_zero, List.setIfInBounds_toArray, List.set_cons_succ, List.set_cons_zero]
          refine wpAnyHIn_take hfnr (by kernel_rfl) (i := 4) (v := ?vrlA13) rfl (by kernel_rfl) (by kernel_rfl) (by kernel_rfl) (fun _ _ _ h => h) (Or.inl ⟨by rfl, ?hrlA13⟩) (by assumption) ?rrlA13
          case hrlA13 => intro w hSw; (try dsimp only at hSw); go_simp; try with_reducible rfl
          simp only [Act.put, List.getElem_toArray, List.getElem_cons_succ, List.getElem_cons_zero, List.setIfInBounds_toArray, List.set_cons_succ, List.set_cons_zero]
          refine wpAnyHIn_take hfnr (by kernel_rfl) (i := 5) (v := ?vrlA16) rfl (by kernel_rfl) (by kernel_rfl) (by kernel_rfl) (fun _ _ _ h => h) (Or.inl ⟨by rfl, ?hrlA16⟩) (by assumption) ?rrlA16
          case hrlA16 => intro w hSw; (try dsimp only at hSw); go_simp; try with_reducible rfl
          simp only [Act.put, List.getElem_toArray, List.getElem_cons_succ, List.getElem_cons_zero, List.setIfInBounds_toArray, List.set_cons_succ, List.set_cons_zero]
          refine wpAnyHIn_take hfnr (by kernel_rfl) (i := 6) (v := ?vrlA19) rfl (by kernel_rfl) (by kernel_rfl) (by kernel_rfl) (fun _ _ _ h => h) (Or.inl ⟨by rfl, ?hrlA19⟩) (by assumption) ?rrlA19
          case hrlA19 => intro w hSw; (try dsimp only at hSw); go_simp; try with_reducible rfl
          simp only [Act.put, List.getElem_toArray, List.getElem_cons_succ, List.getElem_cons_zero, List.setIfInBounds_toArray, List.set_cons_succ, List.set_cons_zero]
          refine wpAnyHIn_take hfnr (by kernel_rfl) (i := 8) (v := ?vrlA22) rfl (by kernel_rfl) (by kernel_rfl) (by kernel_rfl) (fun _ _ _ h => h) (Or.inl ⟨by rfl, ?hrlA22⟩) (by assumption) ?rrlA22
          case hrlA22 => intro w hSw; (try dsimp only at hSw); go_simp; try with_reducible rfl
          simp only [Act.put, List.getElem_toArray, List.getElem_cons_succ, List.getElem_cons_zero, List.setIfInBounds_toArray, List.set_cons_succ, List.set_cons_zero]
          refine wpAnyHIn_take hfnr (by kernel_rfl) (i := 9) (v := ?vrlA25) rfl (by kernel_rfl) (by kernel_rfl) (by kernel_rfl) (fun _ _ _ h => h) (Or.inl ⟨by rfl, ?hrlA25⟩) (by assumption) ?rrlA25
          case hrlA25 => intro w hSw; (try dsimp only at hSw); go_simp; try with_reducible rfl
          simp only [Act.put, List.getElem_toArray, List.getElem_cons_succ, List.getElem_cons_zero, List.setIfInBounds_toArray, List.set_cons_succ, List.set_cons_zero]
          refine wpAnyHIn_take hfnr (by kernel_rfl) (i := 10) (v := ?vrlA28) rfl (by kernel_rfl) (by kernel_rfl) (by kernel_rfl) (fun _ _ _ h => h) (Or.inl ⟨by rfl, ?hrlA28⟩) (by assumption) ?rrlA28
          case hrlA28 => intro w hSw; (try dsimp only at hSw); go_simp; try with_reducible rfl
          simp only [Act.put, List.getElem_toArray, List.getElem_cons_succ, List.getElem_cons_zero, List.setIfInBounds_toArray, List.set_cons_succ, List.set_cons_zero]
          refine wpAnyHIn_ready (rs := [7]) (by kernel_rfl) (by simp) ?_
          refine AllReadyHIn.cons hfnr rfl (fun K hK => ?_) AllReadyHIn.nil
          go_simp
          gi_at_call 59
          refine (HAF.out _).mono ?_
          rintro e w7 ⟨aa, ak, ac, rfl, hak, hown, hb7'⟩
          have hb7 : Below X.heap.size X w7 := (below_drawn (Below.refl _ _) ⟨1, rfl⟩ : Below X.heap.size X X.drew).trans hb7'
          have hS7 := HSK.out w7 ((Keep.of_below hb7).mono fun k hk _ => hk)
          have HOW7 := Lib.hid hown
          have HAK7 := Lib.hid hak
          clear hown hak
          gi_wp2_with fail
          refine hK.out _ _ (by first | ((first | exact hS8 | exact hS7 | exact HSK.out _ (Keep.drew _ X))) | ((try dsimp only); (first | exact hS8 | exact hS7 | exact HSK.out _ (Keep.drew _ X)))) (fun hHeld => ?_)
          clear hK K
          try simp only [Act.put, List.getElem_toArray, List.getElem_cons_succ, List.getElem_cons_zero, List.setIfInBounds_toArray, List.set_cons_succ, List.set_cons_zero]
          refine wpAnyHIn_ready (rs := [11]) (by kernel_rfl) (by simp) ?_
          refine AllReadyHIn.cons hfnr rfl (fun K hK => ?_) AllReadyHIn.nil
          go_simp
          gi_at_call 58
          refine (HBYC.out w7 aa ak ac hb7 HAK7.out HOW7.out _).mono ?_
          rintro e w8x ⟨b9, O9, rfl, hk9, ho9, hr9, ht9, hf9⟩
          have hS8 := HSK.out w8x (((Keep.of_below hb7).mono fun k hk _ => hk).trans (hk9.mono fun k _ h => h))
          have hk9x : Keep (fun k => ¬ U k) X w8x := ((Keep.of_below hb7).mono fun k hk _ => hk).trans (hk9.mono fun k _ h => ⟨fun h' => h ((HU.out k).2 (.inl h')), fun h' => h ((HU.out k).2 (.inr h'))⟩)
          have HK9 := Lib.hid hk9x
          have HO9 : Hid (∀ k, O9 k → O1 k ∨ X.heap.size ≤ k ∧ k < w8x.heap.size) := Lib.hid fun k h => (ho9 k h).imp id fun h => ⟨by have := hb7.size; omega, h.2⟩
          have HR9 := Lib.hid hr9
          have HT9 := Lib.hid ht9
          have HF9 := Lib.hid hf9
          clear hk9 hk9x ho9 hr9 ht9 hf9
          gi_wp2_with fail
          refine hK.out _ _ (by first | ((first | exact hS8 | exact hS7 | exact HSK.out _ (Keep.drew _ X))) | ((try dsimp only); (first | exact hS8 | exact hS7 | exact HSK.out _ (Keep.drew _ X)))) (fun hHeld => ?_)
          clear hK K
          try simp only [Act.put, List.getElem_toArray, List.getElem_cons_succ, List.getElem_cons_zero, List.setIfInBounds_toArray, List.set_cons_succ, List.set_cons_zero]
          refine wpAnyHIn_take hfnr (by kernel_rfl) (i := 12) (v := ?vrlA64) rfl (by kernel_rfl) (by kernel_rfl) (by kernel_rfl) (fun _ _ _ h => h) (Or.inl ⟨by rfl, ?hrlA64⟩) (by assumption) ?rrlA64
          case hrlA64 => intro w hSw; (try dsimp only at hSw); go_simp; try with_reducible rfl
          simp only [Act.put, List.getElem_toArray, List.getElem_cons_succ, List.getElem_cons_zero, List.setIfInBounds_toArray, List.set_cons_succ, List.set_cons_zero]
          refine wpAnyHIn_done (by kernel_rfl) ?_ _
          clear hHeld
          cases b9
          · have HF10 := Lib.hid (HF9.out rfl)
            clear HT9 HF9
            gi_wp2
            obtain ⟨preX, hX⟩ := HF10.out
            exact ⟨fun k => O9 k ∨ k = R, HK9.out, fun k h => h.elim (fun h => (HO9.out k h).imp (fun h => (HU.out k).2 (.inl h)) id) (fun h => .inl ((HU.out k).2 (.inr h))), rfl, O9, preX, fun k h => .inl h, hX⟩
          · obtain ⟨pre9, hn9, hj9⟩ := HT9.out rfl
            clear HT9 HF9
            have HLN : Hid (LoopI J l zs O R len (y) y wr (pre ++ [(⟨(k, (u : Int)), hx2⟩ : Bi ys)]).length (fun k => O9 k ∨ k = R) w8x) := Lib.hid ⟨O9, pre9, k, fun _ => Iff.rfl, by rw [hn9, HPJ.out, ← HBACK.out, List.length_append, List.length_singleton, show y - (pre.length + 1) = k by omega], hj9, HKX.out.trans' HK9.out fun k' hk' h => ⟨h, fun h' => ((HU.out k').1 h').elim (fun h'' => (HO1.out k' h'').elim h.1 (fun h3 => by omega)) h.2⟩, fun k' h => (HO9.out k' h).elim (fun h => (HO1.out k' h).imp id fun h => ⟨h.1, by have := HK9.out.size; omega⟩) (fun h => .inr ⟨by have := HKX.out.size; omega, h.2⟩), HR9.out, by rw [List.length_append, List.length_singleton]; omega, by omega⟩
            clear hn9 hj9
            gi_wp2
            exact ⟨fun k => O9 k ∨ k = R, HK9.out, fun k h => h.elim (fun h => (HO9.out k h).imp (fun h => (HU.out k).2 (.inl h)) id) (fun h => .inl ((HU.out k).2 (.inr h))), HLN.out⟩
        case done =>
          rintro D xsd U X hD hUD ⟨hxs1, hxs2⟩ ⟨O1, preJ, q, h1, h2, h3, h4, h5, h6, h7, h8⟩ hK
          have hL9 : nums preJ = toldG l 0 zs := by rw [h2, hxs2, Nat.sub_self, hL0.out]
          have kD : Keep (fun k => k < W.heap.size ∨ O1 k) X (X.putObj D (.deferred none)) := Keep.putObj _ _ _ (by rintro (h | h); omega; exact hUD ((h1 D).2 (.inl h)))
          have hJ9 := HJ.out _ _ _ _ h3 kD
          have HR9 := Lib.hid (And.intro hL9 hJ9)
          clear h1 h2 h3 h4 h5 h6 hL9 kD hJ9
          gi_wp2
          refine ⟨by simp, .inl ⟨_, _, rfl, run_takeDeferred hK, ?_⟩⟩
          exact ⟨_, results_none rfl _ _ _, ⟨_, rfl⟩, O1, .inl ⟨preJ, HR9.out.1, HR9.out.2⟩⟩
        case stop =>
          rintro D c pre U X hD hUD - ⟨rfl, O1, preX, h1, h2⟩ hK
          have kD : Keep (fun k => k < W.heap.size ∨ O1 k) X (X.putObj D (.deferred none)) := Keep.putObj _ _ _ (by rintro (h | h); omega; exact hUD (h1 D h))
          have HR9 := Lib.hid (HJX.out _ _ _ _ h2 kD)
          clear h1 h2 kD
          gi_wp2
          refine ⟨by simp, .inl ⟨_, _, rfl, run_takeDeferred hK, ?_⟩⟩
          exact ⟨_, results_none rfl _ _ _, ⟨_, rfl⟩, O1, .inr ⟨preX, trivial, HR9.out⟩⟩

  have HREST := Lib.hid hrest
  have hw1 : IntKind.i64.wrap (y : Int) = (y : Int) := by rw [IntKind.wrap_i64]; omega
  have hyc : (y : Int) ≤ (cap2 : Int) := by omega
  have hy0 : (0 : Int) ≤ (y : Int) := by omega
  have HS2 : Hid (∀ c, Below wl.heap.size wl c → c.cell? ⟨B1, 0, none⟩ = some (.slice (some ⟨sb, so, none⟩) len cap) ∧ c.cell? ⟨B2, 0, none⟩ = some (.slice b m cap2)) := Lib.hid fun c h => HCC.out c (HB2.out.trans (h.mono HB2.out.size))
  have HZ2 : Hid (∀ c, Below wl.heap.size wl c → Sl .i64 c b y cap2 (zs.take y)) := Lib.hid fun c h => (HZ.out.below (HBW.out.trans ((HB2.out.trans (h.mono HB2.out.size)).mono hzW)) (Nat.le_refl _)).cut hym
  have hbd : Below wl.heap.size wl wl.drew := below_drawn (Below.refl _ _) ⟨1, rfl⟩
  clear hrest hKr e1 e2
  refine wpIn_region_held_drewN (S := (fun w' => w'.cell? ⟨B1, 0, none⟩ = some (.slice (some ⟨sb, so, none⟩) len cap) ∧ w'.cell? ⟨B2, 0, none⟩ = some (.slice b m cap2))) (by kernel_rfl) (by first | ((first | exact hSE | exact hSwA | exact hSwB | exact hSwM | exact HS2.out _ hbd)) | ((try dsimp only); (first | exact hSE | exact hSwA | exact hSwB | exact hSwM | exact HS2.out _ hbd))) (fun hHeld => ?_)
  refine wpAnyHIn_take hfn (by kernel_rfl) (i := 0) (v := ?vsq1) rfl (by kernel_rfl) (by kernel_rfl) (by kernel_rfl) (fun _ _ _ h => h) (Or.inl ⟨by rfl, ?hsq1⟩) (by assumption) ?rsq1
  case hsq1 => intro w hSw; (try dsimp only at hSw); go_simp; try with_reducible rfl
  simp only [Act.put, List.getElem_toArray, List.getElem_cons_succ, List.getElem_cons_zero, List.setIfInBounds_toArray, List.set_cons_succ, List.set_cons_zero]
  refine wpAnyHIn_take hfn (by kernel_rfl) (i := 1) (v := ?vsq4) rfl (by kernel_rfl) (by kernel_rfl) (by kernel_rfl) (fun _ _ _ h => h) (Or.inl ⟨by rfl, ?hsq4⟩) (by assumption) ?rsq4
  case hsq4 => intro w hSw; (try dsimp only at hSw); go_simp; try with_reducible rfl
  simp only [Act.put, List.getElem_toArray, List.getElem_cons_succ, List.getElem_cons_zero, List.setIfInBounds_toArray, List.set_cons_succ, List.set_cons_zero]
  refine wpAnyHIn_take hfn (by kernel_rfl) (i := 3) (v := ?vsq7) rfl (by kernel_rfl) (by kernel_rfl) (by kernel_rfl) (fun _ _ _ h => h) (Or.inl ⟨by rfl, ?hsq7⟩) (by assumption) ?rsq7
  case hsq7 => intro w hSw; (try dsimp only at hSw); go_simp; try with_reducible rfl
  simp only [Act.put, List.getElem_toArray, List.getElem_cons_succ, List.getElem_cons_zero, List.setIfInBounds_toArray, List.set_cons_succ, List.set_cons_zero]
  refine wpAnyHIn_take hfn (by kernel_rfl) (i := 4) (v := ?vsq10) rfl (by kernel_rfl) (by kernel_rfl) (by kernel_rfl) (fun _ _ _ h => h) (Or.inl ⟨by rfl, ?hsq10⟩) (by assumption) ?rsq10
  case hsq10 => intro w hSw; (try dsimp only at hSw); go_simp; try with_reducible rfl
  simp only [Act.put, List.getElem_toArray, List.getElem_cons_succ, List.getElem_cons_zero, List.setIfInBounds_toArray, List.set_cons_succ, List.set_cons_zero]
  refine wpAnyHIn_take hfn (by kernel_rfl) (i := 5) (v := ?vsq13) rfl (by kernel_rfl) (by kernel_rfl) (by kernel_rfl) (fun _ _ _ h => h) (Or.inl ⟨by rfl, ?hsq13⟩) (by assumption) ?rsq13
  case hsq13 => intro w hSw; (try dsimp only at hSw); go_simp; try with_reducible rfl
  simp only [Act.put, List.getElem_toArray, List.getElem_cons_succ, List.getElem_cons_zero, List.setIfInBounds_toArray, List.set_cons_succ, List.set_cons_zero]
  refine wpAnyHIn_take hfn (by kernel_rfl) (i := 6) (v := ?vsq16) rfl (by kernel_rfl) (by kernel_rfl) (by kernel_rfl) (fun _ _ _ h => h) (Or.inl ⟨by rfl, ?hsq16⟩) (by assumption) ?rsq16
  case hsq16 => intro w hSw; (try dsimp only at hSw); go_simp; try with_reducible rfl
  simp only [Act.put, List.getElem_toArray, List.getElem_cons_succ, List.getElem_cons_zero, List.setIfInBounds_toArray, List.set_cons_succ, List.set_cons_zero]
  refine wpAnyHIn_take hfn (by kernel_rfl) (i := 7) (v := ?vsq19) rfl (by kernel_rfl) (by kernel_rfl) (by kernel_rfl) (fun _ _ _ h => h) (Or.inl ⟨by rfl, ?hsq19⟩) (by assumption) ?rsq19
  case hsq19 => intro w hSw; (try dsimp only at hSw); go_simp; try with_reducible rfl
  simp only [Act.put, List.getElem_toArray, List.getElem_cons_succ, List.getElem_cons_zero, List.setIfInBounds_toArray, List.set_cons_succ, List.set_cons_zero]
  refine wpAnyHIn_ready (rs := [2, 9]) (by kernel_rfl) (by simp) ?_
  refine AllReadyHIn.cons hfn rfl (fun K hK => ?_) (AllReadyHIn.cons hfn rfl (fun K hK => ?_) AllReadyHIn.nil)
  · refine step_make_room (by rfl) _ (.tmp 16) len (by omega) (by rfl) (by rfl) (by rfl) ?_
    intro R wM hRe hrM hkM
    have hbwM : Below wl.heap.size wl wM := hbd.trans ((hkM (fun _ => True)).below hbd.size (fun _ _ => trivial))
    have hRl : wl.heap.size ≤ R := by rw [hRe]; exact hbd.size
    have hroomwM := hrM
    clear hRe
    have hSwM := HS2.out _ hbwM
    refine hK.out _ _ (by first | ((first | exact hSE | exact hSwA | exact hSwB | exact hSwM | exact HS2.out _ hbd)) | ((try dsimp only); (first | exact hSE | exact hSwA | exact hSwB | exact hSwM | exact HS2.out _ hbd))) (fun hHeld => ?_)
    clear hK K
    try simp only [Act.put, List.getElem_toArray, List.getElem_cons_succ, List.getElem_cons_zero, List.setIfInBounds_toArray, List.set_cons_succ, List.set_cons_zero]
    refine wpAnyHIn_ready (rs := [8, 9]) (by kernel_rfl) (by simp) ?_
    refine AllReadyHIn.cons hfn rfl (fun K hK => ?_) (AllReadyHIn.cons hfn rfl (fun K hK => ?_) AllReadyHIn.nil)
    · refine step_append_word (by rfl) (.tmp 17) (.tmp 22) (by rfl) R len (by rfl) hroomwM b y cap2 (zs.take y) (by rfl) (HZ2.out _ hbwM) hnil (by omega) ?_
      intro wA hroomwA hkA
      have hbwA : Below wl.heap.size wl wA := hbwM.trans (hkA.below hbwM.size (fun k hk => by omega))
      have hSwA := HS2.out _ hbwA
      refine hK.out _ _ (by first | ((first | exact hSE | exact hSwA | exact hSwB | exact hSwM | exact HS2.out _ hbd)) | ((try dsimp only); (first | exact hSE | exact hSwA | exact hSwB | exact hSwM | exact HS2.out _ hbd))) (fun hHeld => ?_)
      clear hK K
      try simp only [Act.put, List.getElem_toArray, List.getElem_cons_succ, List.getElem_cons_zero, List.setIfInBounds_toArray, List.set_cons_succ, List.set_cons_zero]
      refine wpAnyHIn_ready (rs := [9]) (by kernel_rfl) (by simp) ?_
      refine AllReadyHIn.cons hfn rfl (fun K hK => ?_) AllReadyHIn.nil
      refine step_alloc_box (by rfl) (by rfl) ?_
      intro rb wB hrbe hboxwB hkB
      have hbwB : Below wl.heap.size wl wB := hbwA.trans ((hkB (fun _ => True)).below hbwA.size (fun _ _ => trivial))
      have hrl : wl.heap.size ≤ rb := by rw [hrbe]; exact hbwA.size
      have hroomwB := hroomwA.keep (hkB (fun _ => True)) trivial
      have hne : R ≠ rb := by obtain ⟨cur, hcc, _⟩ := hroomwA.obj; have := (Array.getElem?_eq_some_iff.1 hcc).1; omega
      clear hrbe
      have hSwB := HS2.out _ hbwB
      have hcb : wB.cell? ⟨rb, 0, none⟩ = some (.slice none 0 0) := (by rw [cell_of_obj hboxwB]; rfl)
      have hfb : wB.frozen? ⟨rb, 0, none⟩ = false := frozen_of_row wB _ 0 _ _ hboxwB
      have hXE : SeqAt len y zs wl R rb (wB.setCell ⟨rb, 0, none⟩ (.slice (some ⟨R, 0, none⟩) y len)) := ⟨hRl, hrl, hne, hroomwB.keep (Keep.setCell _ ⟨rb, 0, none⟩ _ (S := fun k => k ≠ rb) (fun h => h rfl)) hne, (by rw [heap_setCell_same _ _ _ _ _ _ hboxwB]; rfl), hbwB.setCell (p := ⟨rb, 0, none⟩) hrl _⟩
      have hSE := HS2.out _ hXE.2.2.2.2.2
      have HXE := Lib.hid hXE
      clear hXE
      refine hK.out _ _ (by first | ((first | exact hSE | exact hSwA | exact hSwB | exact hSwM | exact HS2.out _ hbd)) | ((try dsimp only); (first | exact hSE | exact hSwA | exact hSwB | exact hSwM | exact HS2.out _ hbd))) (fun hHeld => ?_)
      clear hK K
      try simp only [Act.put, List.getElem_toArray, List.getElem_cons_succ, List.getElem_cons_zero, List.setIfInBounds_toArray, List.set_cons_succ, List.set_cons_zero]
      refine wpAnyHIn_ready (rs := [10]) (by kernel_rfl) (by simp) ?_
      refine AllReadyHIn.cons hfn rfl (fun K hK => ?_) AllReadyHIn.nil
      go_simp
      refine hK.out _ _ (by first | ((first | exact hSE | exact hSwA | exact hSwB | exact hSwM | exact HS2.out _ hbd)) | ((try dsimp only); (first | exact hSE | exact hSwA | exact hSwB | exact hSwM | exact HS2.out _ hbd))) (fun hHeld => ?_)
      clear hK K
      try simp only [Act.put, List.getElem_toArray, List.getElem_cons_succ, List.getElem_cons_zero, List.setIfInBounds_toArray, List.set_cons_succ, List.set_cons_zero]
      refine wpAnyHIn_done (by kernel_rfl) ?_ _
      simp only [onlyN]
      clear hHeld
      exact HREST.out _ _ _ HXE.out
    · refine step_alloc_box (by rfl) (by rfl) ?_
      intro rb wB hrbe hboxwB hkB
      have hbwB : Below wl.heap.size wl wB := hbwM.trans ((hkB (fun _ => True)).below hbwM.size (fun _ _ => trivial))
      have hrl : wl.heap.size ≤ rb := by rw [hrbe]; exact hbwM.size
      have hroomwB := hroomwM.keep (hkB (fun _ => True)) trivial
      have hne : R ≠ rb := by obtain ⟨cur, hcc, _⟩ := hroomwM.obj; have := (Array.getElem?_eq_some_iff.1 hcc).1; omega
      clear hrbe
      have hSwB := HS2.out _ hbwB
      refine hK.out _ _ (by first | ((first | exact hSE | exact hSwA | exact hSwB | exact hSwM | exact HS2.out _ hbd)) | ((try dsimp only); (first | exact hSE | exact hSwA | exact hSwB | exact hSwM | exact HS2.out _ hbd))) (fun hHeld => ?_)
      clear hK K
      try simp only [Act.put, List.getElem_toArray, List.getElem_cons_succ, List.getElem_cons_zero, List.setIfInBounds_toArray, List.set_cons_succ, List.set_cons_zero]
      refine wpAnyHIn_ready (rs := [8]) (by kernel_rfl) (by simp) ?_
      refine AllReadyHIn.cons hfn rfl (fun K hK => ?_) AllReadyHIn.nil
      refine step_append_word (by rfl) (.tmp 17) (.tmp 22) (by rfl) R len (by rfl) hroomwB b y cap2 (zs.take y) (by rfl) (HZ2.out _ hbwB) hnil (by omega) ?_
      intro wA hroomwA hkA
      have hbwA : Below wl.heap.size wl wA := hbwB.trans (hkA.below hbwB.size (fun k hk => by omega))
      have hboxwA := hkA.heap hboxwB (by omega)
      have hSwA := HS2.out _ hbwA
      have hcb : wA.cell? ⟨rb, 0, none⟩ = some (.slice none 0 0) := (by rw [cell_of_obj hboxwA]; rfl)
      have hfb : wA.frozen? ⟨rb, 0, none⟩ = false := frozen_of_row wA _ 0 _ _ hboxwA
      have hXE : SeqAt len y zs wl R rb (wA.setCell ⟨rb, 0, none⟩ (.slice (some ⟨R, 0, none⟩) y len)) := ⟨hRl, hrl, hne, hroomwA.keep (Keep.setCell _ ⟨rb, 0, none⟩ _ (S := fun k => k ≠ rb) (fun h => h rfl)) hne, (by rw [heap_setCell_same _ _ _ _ _ _ hboxwA]; rfl), hbwA.setCell (p := ⟨rb, 0, none⟩) hrl _⟩
      have hSE := HS2.out _ hXE.2.2.2.2.2
      have HXE := Lib.hid hXE
      clear hXE
      refine hK.out _ _ (by first | ((first | exact hSE | exact hSwA | exact hSwB | exact hSwM | exact HS2.out _ hbd)) | ((try dsimp only); (first | exact hSE | exact hSwA | exact hSwB | exact hSwM | exact HS2.out _ hbd))) (fun hHeld => ?_)
      clear hK K
      try simp only [Act.put, List.getElem_toArray, List.getElem_cons_succ, List.getElem_cons_zero, List.setIfInBounds_toArray, List.set_cons_succ, List.set_cons_zero]
      refine wpAnyHIn_ready (rs := [10]) (by kernel_rfl) (by simp) ?_
      refine AllReadyHIn.cons hfn rfl (fun K hK => ?_) AllReadyHIn.nil
      go_simp
      refine hK.out _ _ (by first | ((first | exact hSE | exact hSwA | exact hSwB | exact hSwM | exact HS2.out _ hbd)) | ((try dsimp only); (first | exact hSE | exact hSwA | exact hSwB | exact hSwM | exact HS2.out _ hbd))) (fun hHeld => ?_)
      clear hK K
      try simp only [Act.put, List.getElem_toArray, List.getElem_cons_succ, List.getElem_cons_zero, List.setIfInBounds_toArray, List.set_cons_succ, List.set_cons_zero]
      refine wpAnyHIn_done (by kernel_rfl) ?_ _
      simp only [onlyN]
      clear hHeld
      exact HREST.out _ _ _ HXE.out
  · refine step_alloc_box (by rfl) (by rfl) ?_
    intro rb wB hrbe hboxwB hkB
    have hbwB : Below wl.heap.size wl wB := hbd.trans ((hkB (fun _ => True)).below hbd.size (fun _ _ => trivial))
    have hrl : wl.heap.size ≤ rb := by rw [hrbe]; exact hbd.size
    clear hrbe
    have hSwB := HS2.out _ hbwB
    refine hK.out _ _ (by first | ((first | exact hSE | exact hSwA | exact hSwB | exact hSwM | exact HS2.out _ hbd)) | ((try dsimp only); (first | exact hSE | exact hSwA | exact hSwB | exact hSwM | exact HS2.out _ hbd))) (fun hHeld => ?_)
    clear hK K
    try simp only [Act.put, List.getElem_toArray, List.getElem_cons_succ, List.getElem_cons_zero, List.setIfInBounds_toArray, List.set_cons_succ, List.set_cons_zero]
    refine wpAnyHIn_ready (rs := [2]) (by kernel_rfl) (by simp) ?_
    refine AllReadyHIn.cons hfn rfl (fun K hK => ?_) AllReadyHIn.nil
    refine step_make_room (by rfl) _ (.tmp 16) len (by omega) (by rfl) (by rfl) (by rfl) ?_
    intro R wM hRe hrM hkM
    have hbwM : Below wl.heap.size wl wM := hbwB.trans ((hkM (fun _ => True)).below hbwB.size (fun _ _ => trivial))
    have hRl : wl.heap.size ≤ R := by rw [hRe]; exact hbwB.size
    have hroomwM := hrM
    have hboxwM := (hkM (fun _ => True)).heap hboxwB trivial
    have hne : R ≠ rb := by have := (Array.getElem?_eq_some_iff.1 hboxwB).1; omega
    clear hRe
    have hSwM := HS2.out _ hbwM
    refine hK.out _ _ (by first | ((first | exact hSE | exact hSwA | exact hSwB | exact hSwM | exact HS2.out _ hbd)) | ((try dsimp only); (first | exact hSE | exact hSwA | exact hSwB | exact hSwM | exact HS2.out _ hbd))) (fun hHeld => ?_)
    clear hK K
    try simp only [Act.put, List.getElem_toArray, List.getElem_cons_succ, List.getElem_cons_zero, List.setIfInBounds_toArray, List.set_cons_succ, List.set_cons_zero]
    refine wpAnyHIn_ready (rs := [8]) (by kernel_rfl) (by simp) ?_
    refine AllReadyHIn.cons hfn rfl (fun K hK => ?_) AllReadyHIn.nil
    refine step_append_word (by rfl) (.tmp 17) (.tmp 22) (by rfl) R len (by rfl) hroomwM b y cap2 (zs.take y) (by rfl) (HZ2.out _ hbwM) hnil (by omega) ?_
    intro wA hroomwA hkA
    have hbwA : Below wl.heap.size wl wA := hbwM.trans (hkA.below hbwM.size (fun k hk => by omega))
    have hboxwA := hkA.heap hboxwM (by omega)
    have hSwA := HS2.out _ hbwA
    have hcb : wA.cell? ⟨rb, 0, none⟩ = some (.slice none 0 0) := (by rw [cell_of_obj hboxwA]; rfl)
    have hfb : wA.frozen? ⟨rb, 0, none⟩ = false := frozen_of_row wA _ 0 _ _ hboxwA
    have hXE : SeqAt len y zs wl R rb (wA.setCell ⟨rb, 0, none⟩ (.slice (some ⟨R, 0, none⟩) y len)) := ⟨hRl, hrl, hne, hroomwA.keep (Keep.setCell _ ⟨rb, 0, none⟩ _ (S := fun k => k ≠ rb) (fun h => h rfl)) hne, (by rw [heap_setCell_same _ _ _ _ _ _ hboxwA]; rfl), hbwA.setCell (p := ⟨rb, 0, none⟩) hrl _⟩
    have hSE := HS2.out _ hXE.2.2.2.2.2
    have HXE := Lib.hid hXE
    clear hXE
    refine hK.out _ _ (by first | ((first | exact hSE | exact hSwA | exact hSwB | exact hSwM | exact HS2.out _ hbd)) | ((try dsimp only); (first | exact hSE | exact hSwA | exact hSwB | exact hSwM | exact HS2.out _ hbd))) (fun hHeld => ?_)
    clear hK K
    try simp only [Act.put, List.getElem_toArray, List.getElem_cons_succ, List.getElem_cons_zero, List.setIfInBounds_toArray, List.set_cons_succ, List.set_cons_zero]
    refine wpAnyHIn_ready (rs := [10]) (by kernel_rfl) (by simp) ?_
    refine AllReadyHIn.cons hfn rfl (fun K hK => ?_) AllReadyHIn.nil
    go_simp
    refine hK.out _ _ (by first | ((first | exact hSE | exact hSwA | exact hSwB | exact hSwM | exact HS2.out _ hbd)) | ((try dsimp only); (first | exact hSE | exact hSwA | exact hSwB | exact hSwM | exact HS2.out _ hbd))) (fun hHeld => ?_)
    clear hK K
    try simp only [Act.put, List.getElem_toArray, List.getElem_cons_succ, List.getElem_cons_zero, List.setIfInBounds_toArray, List.set_cons_succ, List.set_cons_zero]
    refine wpAnyHIn_done (by kernel_rfl) ?_ _
    simp only [onlyN]
    clear hHeld
    exact HREST.out _ _ _ HXE.out
end Go.Proofs.Ytimjdlbhbiklgaa
