/- Used by the law. -/
import Derived.Test.YtimjdlbhbiklgaaWalkSeq
import Derived.Test.YtimjdlbhbiklgaaWalkHas
import Derived.Test.YtimjdlbhbiklgaaDawgClone
import Derived.Test.YtimjdlbhbiklgaaPackK
namespace Go.Proofs.Ytimjdlbhbiklgaa
open Go.RowKit Go.Shelf Tri Wlk
attribute [local go_sem] Oper.semAt_some

theorem Ml.keep {B : Nat} {w w' : World} {a : Option Addr} {L c : Nat} {outs : List Wd} {S : Nat → Prop} (h : Ml B w a L c outs) (hk : Keep S w w') (h1 : ∀ r, (Value.slice a L c).ownBlock = some r → S r) (h2 : ∀ x ∈ outs, ∀ r, x.v.ownBlock = some r → S r) : Ml B w' a L c outs :=
  ⟨own_keep h.row hk h1, fun x hx => own_keep (h.own x hx) hk (h2 x hx), h.wfs, h.lens, h.len, h.nil⟩
theorem Ml.lower {B B' : Nat} {w : World} {a : Option Addr} {L c : Nat} {outs : List Wd} (h : Ml B w a L c outs) (hB : B' ≤ B) : Ml B' w a L c outs :=
  ⟨own_lower h.row hB, fun x hx => own_lower (h.own x hx) hB, h.wfs, h.lens, h.len, h.nil⟩

set_option maxRecDepth 100000 in
set_option maxHeartbeats 1000000 in
theorem wordsFrom_in (F : Fence) (n : Nat) (h5 : F.fn 30) (hro : F.round = none) (a b : Option Addr) (len cap m cap2 : Nat) (w : World) :
    CallsIn F n Try.prog 30 #[.slice a len cap, .slice b m cap2] w fun e w' => e = .returned (.func (.func 54) #[] #[.pointer (some ⟨w.heap.size, 0, none⟩), .pointer (some ⟨w.heap.size + 1, 0, none⟩)]) ∧ w' = (w.alloc (.cells #[.slice a len cap] 22)).alloc (.cells #[.slice b m cap2] 23) := by
  refine callsIn_of_wp Try.func30 rfl h5 ?_ hro
  simp only [Try.ntmps30, List.size_toArray, List.length_cons, List.length_nil, Nat.reduceAdd, Nat.reduceSub, Array.replicate_succ, Array.replicate_zero, List.push_toArray, List.append_toArray, List.nil_append, List.cons_append]
  gi_wp2
  go_ret
  exact ⟨rfl, rfl⟩

set_option maxRecDepth 100000 in
theorem step_build_word_in {F : Fence} {n : Nat} {w : World} {ops : Array Oper} {o : Oper} {act : Act} {K : Act → World → Prop} {Q : Exit → Act → World → Prop} {E : Prop} (hw : Region.wanted o (yielded ops act.tmps) = true) (x : Operand) (a : Option Addr) (k c : Nat)
    (ho : o.op = .buildSlice 26 1 #[(0, x)]) (hx : act.eval x = .slice a k c) (h : ∀ g w', w'.cell? ⟨g, 0, none⟩ = some (.slice a k c) → Below w.heap.size w w' → K (act.put o.dst (.slice (some ⟨g, 0, none⟩) 1 1)) w') :
    if Region.wanted o (yielded ops act.tmps) = true then o.wpIn F n Try.prog act w K Q else E := by
  rw [if_pos hw]
  unfold Oper.wpIn
  refine ⟨by simp [Oper.about, ho], ?_⟩
  rw [Oper.semAt_plain F _ _ (by rw [ho]; intro c hc; cases hc)]
  simp only [execOp, ho, List.map_toArray, List.map_cons, List.map_nil, hx]
  go_simp
  exact h _ _ (by rw [World.cell?, heap_alloc_new]; rfl) ((Below.refl _ w).alloc (Nat.le_refl _) _)
set_option maxRecDepth 100000 in
theorem step_append_words_in {F : Fence} {m : Nat} {w : World} {ops : Array Oper} {o : Oper} {act : Act} {K : Act → World → Prop} {Q : Exit → Act → World → Prop} {E : Prop} (hw : Region.wanted o (yielded ops act.tmps) = true) (s x : Operand)
    (ho : o.op = .call { callee := .builtin .append, args := #[s, x], argTypes := #[26, 26] }) (base : Nat) (v : Value) (n : Nat) (outs : List Wd) (hs : act.eval s = v)
    (hown : w.ownsRow base 23 1 v n (vals outs)) (g : Nat) (y : Wd) (hx : act.eval x = .slice (some ⟨g, 0, none⟩) 1 1) (h0 : w.cell? ⟨g, 0, none⟩ = some y.v)
    (N : Nat) (hN : n + 1 = N) (h63 : N * 24 ≤ 140737488355328) (hbase : base ≤ w.heap.size)
    (h : ∀ a' c' w', w'.ownsRow base 23 1 (.slice a' N c') N (vals (outs ++ [y])) → w.grownBy w' v.ownBlock → (a' = none → c' = 0) → ((Value.slice a' N c').ownBlock = v.ownBlock ∨ (Value.slice a' N c').ownBlock = some w.heap.size) → K (act.put o.dst (.slice a' N c')) w') :
    if Region.wanted o (yielded ops act.tmps) = true then o.wpIn F m Try.prog act w K Q else E := by
  subst hN
  rw [if_pos hw]
  obtain ⟨i0, hi, hz0, hz1, hz2⟩ := info_parts info_words
  have hnews : ∀ j u, (vals [y])[j]? = some u → w.cell? ((⟨g, 0, none⟩ : Addr).add j) = some u := fun j u hj => by
    match j, hj with
    | 0, hj => simp [vals] at hj; rw [← hj, ← h0]; simp [Addr.add]
    | j + 1, hj => simp [vals] at hj
  obtain ⟨v', w', hrun, r1, r2, r3⟩ := run_append_own (P := Try.prog) w base 26 o.type 23 i0 (.slice none 0 0) 1 24 Try.underlying26 hi hz0 hz1 hz2 rfl (by decide) v n (vals outs) hown ⟨g, 0, none⟩ 1 1 (vals [y]) (by simp [vals]) hnews (words_oneCell [y]) (by unfold maxLen; omega) (by omega) hbase
  have hwh := run_append_where (P := Try.prog) (w := w) base 26 o.type 23 i0 (.slice none 0 0) 1 24 Try.underlying26 hi hz0 hz1 hz2 rfl (by decide) v n (vals outs) hown ⟨g, 0, none⟩ 1 1 (vals [y]) (by simp [vals]) hnews (words_oneCell [y]) (by unfold maxLen; omega) (by omega) hbase v' w' hrun
  obtain ⟨a', c', rfl, hnil⟩ := own_form r1
  unfold Oper.wpIn
  refine ⟨?_, ?_⟩
  · simp [Oper.about, ho, resolve, Target.leads, Sem.run_pure]
  · rw [Oper.semAt_plain F _ _ (by rw [ho]; intro c hc'; cases hc')]
    simp [execOp, ho, resolve, invoke, builtin, hs, hx, hrun, Result.andThen]
    exact h a' c' w' (by rw [vals_app]; exact r1) r2 hnil hwh
set_option maxRecDepth 100000 in
theorem ne_ll : (23 : TypeId) ≠ 26 := by decide
set_option maxRecDepth 100000 in
theorem ne_il : (3 : TypeId) ≠ 26 := by decide
theorem own_ne_box {w : World} {B : Nat} {e t : TypeId} {size n ob : Nat} {v u : Value} {l : List Value} (h : w.ownsRow B e size v n l) (hb : Boxed w ob t u) (hne : e ≠ t) {r : Nat} (hr : v.ownBlock = some r) : r ≠ ob := by
  intro e'
  subst e'
  obtain ⟨cur, hc⟩ := own_obj h hr
  have hb' : w.heap[r]? = some (.cells #[u] t (0, 0)) := hb
  rw [hc] at hb'
  simp only [Option.some.injEq, Obj.cells.injEq] at hb'
  exact hne hb'.2.1

def OutI (N ob B : Nat) (w : World) (pre : List Wd) (O : Nat → Prop) (X : World) : Prop :=
  ∃ (a : Option Addr) (c : Nat) (outs : List Wd), Boxed X ob 26 (.slice a pre.length c) ∧ Ml B X a pre.length c outs ∧ nums outs = nums pre ∧ pre.length ≤ N ∧ O ob ∧ Below B w X ∧ (∀ r, (Value.slice a pre.length c).ownBlock = some r → O r) ∧ ∀ x ∈ outs, ∀ r, x.v.ownBlock = some r → O r
def OutX (L : List (List Int)) (N ob B : Nat) (w : World) (cc c : Code) (O : Nat → Prop) (X : World) : Prop :=
  c = cc ∧ ∃ (a : Option Addr) (k : Nat) (outs : List Wd), Boxed X ob 26 (.slice a N k) ∧ Ml B X a N k outs ∧ nums outs = L.take N ∧ O ob ∧ Below B w X ∧ (∀ r, (Value.slice a N k).ownBlock = some r → O r) ∧ ∀ x ∈ outs, ∀ r, x.v.ownBlock = some r → O r
theorem outI_keep {N ob B : Nat} {w : World} {pre : List Wd} {O : Nat → Prop} {X X' : World} {base : Nat} (hB : B ≤ base) (hw : B ≤ w.heap.size) (h : OutI N ob B w pre O X) (hk : Keep (fun k => k < base ∨ O k) X X') : OutI N ob B w pre O X' := by
  obtain ⟨a, c, outs, h1, h2, h3, h4, h5, h6, h7, h8⟩ := h
  exact ⟨a, c, outs, hk.boxed h1 (.inr h5), h2.keep hk (fun r e => .inr (h7 r e)) (fun x hx r e => .inr (h8 x hx r e)), h3, h4, h5, h6.trans (hk.below (Nat.le_trans hw h6.size) (fun k h => .inl (by omega))), h7, h8⟩
theorem outX_keep {L : List (List Int)} {N ob B : Nat} {w : World} {cc c : Code} {O : Nat → Prop} {X X' : World} {base : Nat} (hB : B ≤ base) (hw : B ≤ w.heap.size) (h : OutX L N ob B w cc c O X) (hk : Keep (fun k => k < base ∨ O k) X X') : OutX L N ob B w cc c O X' := by
  obtain ⟨hc, a, k, outs, h1, h2, h3, h5, h6, h7, h8⟩ := h
  exact ⟨hc, a, k, outs, hk.boxed h1 (.inr h5), h2.keep hk (fun r e => .inr (h7 r e)) (fun x hx r e => .inr (h8 x hx r e)), h3, h5, h6.trans (hk.below (Nat.le_trans hw h6.size) (fun k h => .inl (by omega))), h7, h8⟩

set_option maxRecDepth 100000 in
set_option maxHeartbeats 6400000 in
theorem from_good {l : List St} (hc : check l = true) (a b : Option Addr) (len cap m cap2 : Nat) (xs : List Sw) (zs : List Int) (N : Nat) (hN : N ≤ 300) (w : World) (hx : Ss w a len cap xs) (hxs : sts xs = l) (hz : Sl .i64 w b m cap2 zs) (hnil : b = none → cap2 = 0) :
    Calls Try.prog 12 #[.slice a len cap, .slice b m cap2, .int .i64 (N : Int)] w fun e w' => ∃ a' k c' outs, e = .returned (.tuple #[.slice a' k c', .int .i64 0]) ∧ Ml w.heap.size w' a' k c' outs ∧ nums outs = (ge l 0 zs).take N ∧ Below w.heap.size w w' := by
  refine (callsIn_wide (n := 20)).1 ?_
  obtain ⟨F, hF⟩ : ∃ F, F = Fence.wide := ⟨_, rfl⟩
  have hfn : ∀ f, F.fn f := by subst hF; exact fun _ => trivial
  have hro : F.round = none := by subst hF; rfl
  have hd : F.depth = none := by subst hF; rfl
  have HCK : Hid (∀ (k : Nat) (X : World), Ss X a len cap xs → CallsIn F k Try.prog 29 #[.slice a len cap] X fun e w' => e = .returned (.bool true) ∧ Below X.heap.size X w') := Lib.hid fun k X h => by subst hF; exact callsIn_wide.2 (tcheck_is a len cap xs true X h (by rw [hxs]; exact hc))
  have HCL : Hid (∀ (k : Nat) (X : World) (x : Wd), WdAt x X → CallsIn F k Try.prog 31 #[x.v] X fun e w' => ∃ a' c', e = .returned (.slice a' x.n c') ∧ w'.ownsRow X.heap.size 3 1 (.slice a' x.n c') x.n (i64s x.zs) ∧ Below X.heap.size X w') := Lib.hid fun k X x h => by subst hF; exact callsIn_wide.2 (clone_is x.a x.n x.cap x.zs X h.1 (fun e => absurd e h.2.2) (by have := h.2.1; omega))
  rw [← hF]
  have hmx : Try.prog.follows .mixedOrders = true := by kernel_rfl
  have HX := Lib.hid hx
  have HZ := Lib.hid hz
  have HXS := Lib.hid hxs
  have HC := Lib.hid hc
  have HFW := Lib.hid hF
  have HB0 : ∀ o, Hid (Below w.heap.size w (w.alloc o)) := fun o => Lib.hid ((Below.refl _ w).alloc (Nat.le_refl _) o)
  clear hx hz hxs hc hF
  refine callsIn_of_wp_marks Try.func12 rfl (hfn _) ?_ hro
  simp only [Try.ntmps12, List.size_toArray, List.length_cons, List.length_nil, Nat.reduceAdd, Nat.reduceSub, Array.replicate_succ, Array.replicate_zero, List.push_toArray, List.append_toArray, List.nil_append, List.cons_append]
  have hn0 : decide ((N : Int) < 0) = false := decide_eq_false (by omega)
  have hn3 : decide ((N : Int) > 300) = false := decide_eq_false (by omega)
  have hn00 : ¬ (N : Int) < 0 := by omega
  have hn33 : ¬ (300 : Int) < (N : Int) := by omega
  gi_wp2_with (first
    | (gi_at_call 29; refine (HCK.out _ _ (HX.out.alloc _)).mono ?_; rintro e w1 ⟨rfl, hb1⟩; have hbn : w1.cell? ⟨w.heap.size, 0, none⟩ = some (.int .i64 (N : Int)) := (by rw [hb1.cell (p := ⟨w.heap.size, 0, none⟩) (by simp)]; rw [cell_of_obj (heap_alloc_new w _)]; rfl); have HB1 := Lib.hid hb1; clear hb1)
    | (gi_at_call 30; refine (wordsFrom_in F _ (hfn _) hro _ _ _ _ _ _ _).mono ?_; rintro e w2 ⟨rfl, rfl⟩))
  obtain ⟨wz, hwz⟩ : ∃ wz, wz = ((w1.alloc (.cells #[.slice none 0 0] 26)).alloc (.cells #[.slice a len cap] 22)).alloc (.cells #[.slice b m cap2] 23) := ⟨_, rfl⟩
  have zz : wz.heap.size = w1.heap.size + 1 + 1 + 1 := by rw [hwz]; simp
  have hz1 : w.heap.size + 1 ≤ w1.heap.size := by have := HB1.out.size; simpa using this
  have k1 : ∀ S, Keep S w1 wz := fun S => by rw [hwz]; exact ((Keep.alloc S w1 _).trans (Keep.alloc S _ _)).trans (Keep.alloc S _ _)
  have hbo : Boxed wz w1.heap.size 26 (.slice none 0 0) := by
    rw [hwz]; exact ((Keep.alloc (fun _ => True) _ _).trans (Keep.alloc (fun _ => True) _ _)).boxed (Boxed.new w1 26 (.slice none 0 0)) trivial
  have hc1 : wz.cell? ⟨w1.heap.size + 1, 0, none⟩ = some (.slice a len cap) := by
    have h := heap_alloc_new (w1.alloc (.cells #[.slice none 0 0] 26)) (.cells #[.slice a len cap] 22)
    rw [World.size_alloc] at h
    rw [hwz, cell_of_obj ((Keep.alloc (fun _ => True) _ _).heap h trivial)]; rfl
  have hc2 : wz.cell? ⟨w1.heap.size + 1 + 1, 0, none⟩ = some (.slice b m cap2) := by
    have h := heap_alloc_new ((w1.alloc (.cells #[.slice none 0 0] 26)).alloc (.cells #[.slice a len cap] 22)) (.cells #[.slice b m cap2] 23)
    rw [World.size_alloc, World.size_alloc] at h
    rw [hwz, cell_of_obj h]; rfl
  have hbw1 : Below w.heap.size w w1 := (HB0 _).out.trans (HB1.out.mono (by simp))
  have hbz : Below w1.heap.size w1 wz := (k1 (fun _ => True)).below (Nat.le_refl _) (fun _ _ => trivial)
  have hbwz : Below w.heap.size w wz := hbw1.trans (hbz.mono (by omega))
  have hzl := HX.out.2.2.1
  have HN : Hid (∀ X, Below w1.heap.size w1 X → X.cell? ⟨w.heap.size, 0, none⟩ = some (.int .i64 (N : Int))) := Lib.hid fun X h => by rw [h.cell (p := ⟨w.heap.size, 0, none⟩) (by show w.heap.size < w1.heap.size; omega)]; exact hbn
  have hiter := seq_iter F HFW.out (20 - 1) HC.out a b len cap m cap2 xs zs w wz HX.out HXS.out HZ.out hnil (w1.heap.size + 1) (w1.heap.size + 1 + 1) (fun k => k < wz.heap.size ∧ k ≠ w1.heap.size) (fun k hk => ⟨by omega, by omega⟩) ⟨by omega, by omega⟩ ⟨by omega, by omega⟩ (fun k hk => hk.1) hbwz hc1 hc2
  rw [← hwz]
  have HBW1 := Lib.hid hbw1
  clear hwz hbwz hc1 hc2 hbn k1 hbw1
  refine wpIn_range_iterR hro (fun h => by rw [hd] at h; cases h) (gf := 54) (lb := #[.pointer (some ⟨w1.heap.size + 1, 0, none⟩), .pointer (some ⟨w1.heap.size + 1 + 1, 0, none⟩)]) rfl (hfn _) (enters_of Try.func54 (by kernel_rfl) rfl)
    hiter (fun x X b r o h hb => h.put o hb) (Keep.refl _ _) (fun k hk => hk.1) (fun _ => rfl)
    (fun pre O X => OutI N w1.heap.size w1.heap.size w1 pre O X) (fun c _ O X => OutX (toldG l 0 zs) N w1.heap.size w1.heap.size w1 (.exit 0) c O X) (fun _ _ _ _ h hk => outI_keep (by omega) (Nat.le_refl _) h hk) (fun _ _ _ _ _ h hk => outX_keep (by omega) (Nat.le_refl _) h hk)
    (fun k => k = w1.heap.size) (by rintro k rfl; exact ⟨fun h => h.2 rfl, by omega⟩)
    ⟨none, 0, [], hbo, Ml.start _ _, rfl, Nat.zero_le _, rfl, hbz, (fun r e => by cases e), (fun x hx => by cases hx)⟩
    (fun x => { tmps := #[.slice a len cap, .slice b m cap2, .int .i64 (N : Int), undef, undef, .pointer (some ⟨w.heap.size, 0, none⟩), .slice none 0 0, .int .i64 0, .pointer (some ⟨w1.heap.size, 0, none⟩), x.v, .slice a len cap, .bool true, .bool false, .int .i64 (N : Int), .bool false, .bool false, .int .i64 (N : Int), .bool false, .bool false, .slice a len cap, .slice b m cap2,
      .func (.func 54) #[] #[.pointer (some ⟨w1.heap.size + 1, 0, none⟩), .pointer (some ⟨w1.heap.size + 1 + 1, 0, none⟩)], x.v, undef, undef, undef, undef, undef, undef, undef, undef, undef, undef], defers := [] }) ?assign ?body ?done ?stop
  case assign =>
    intro l2 x X K' hK'
    gi_wp2
    exact hK'
  case body =>
    rintro l2 pre x O X hT hAt ⟨a', c', outs, h1, h2, h3, h4, h5, h6, h7, h8⟩ hlt hsz2
    obtain ⟨⟨xa, xn, xc, xz⟩, hxe⟩ : ∃ y, y = x := ⟨x, rfl⟩
    have hco := h1.cell
    have hcn := HN.out X h6
    obtain ⟨k, hk⟩ : ∃ k, k = pre.length := ⟨_, rfl⟩
    rw [← hk] at h1 h2 h4 h7 hco
    have HT := Lib.hid hT
    have HK := Lib.hid hk
    have H1 := Lib.hid h1
    have H2 := Lib.hid h2
    have H3 := Lib.hid h3
    have H5 := Lib.hid h5
    have H6 := Lib.hid h6
    have H7 := Lib.hid h7
    have H8 := Lib.hid h8
    have hzX : wz.heap.size ≤ X.heap.size := hsz2
    by_cases hkN : k = N
    · have hkb : ((k : Int) == (N : Int)) = true := by simp [hkN]
      have HX9 : Hid (OutX (toldG l 0 zs) N w1.heap.size w1.heap.size w1 (.exit 0) (.exit 0) O X) := Lib.hid (by
        rw [hkN] at h1 h2 h7
        refine ⟨rfl, a', c', outs, h1, h2, ?_, h5, h6, h7, h8⟩
        rw [h3]
        have hp := List.IsPrefix.trans (show nums pre <+: nums (pre ++ [x]) from by rw [nums_app]; exact List.prefix_append _ _) hT
        have := List.prefix_iff_eq_take.1 hp
        rw [nums_length, ← hk, hkN] at this
        exact this)
      clear hT hAt h1 h2 h3 h5 h6 h7 h8 hk hkN hxe
      gi_wp2
      exact ⟨O, Keep.refl _ _, fun _ h => .inl h, HX9.out⟩
    · have hkb : ((k : Int) == (N : Int)) = false := by simp; omega
      have hkn : ¬ (k : Int) = (N : Int) := by omega
      have HCX := Lib.hid (fun (m' : Nat) => (HCL.out m' X.drew x ⟨hAt.1, hAt.2⟩).inRound l2)
      have HCO : Hid (∀ W, Below X.heap.size X W → W.heap[w1.heap.size]? = some (.cells #[.slice a' k c'] 26 (0, 0)) ∧ W.cell? ⟨w1.heap.size, 0, none⟩ = some (.slice a' k c')) := Lib.hid fun W hW => by
        have h : W.heap[w1.heap.size]? = _ := (hW.block w1.heap.size (by omega)).trans h1
        exact ⟨h, by rw [cell_of_obj h]; rfl⟩
      have hDX : Below X.heap.size X X.drew := below_drawn (Below.refl _ _) ⟨1, rfl⟩
      have hcd := (HCO.out _ hDX).2
      have hxn : xn ≤ 10000 := by have := hAt.2.1; rw [← hxe] at this; exact this
      have HXW : Hid (∀ z ∈ xz, (Lit.int .i64 z).wf = true) := Lib.hid (by have := hAt.1.2.2.2.1; rw [← hxe] at this; exact this)
      have HXL : Hid (xz.length = xn) := Lib.hid (by have := hAt.1.1; rw [← hxe] at this; exact this)
      rw [← hxe] at HCX
      have HNX : Hid (nums (pre ++ [x]) = nums pre ++ [xz]) := Lib.hid (by rw [nums_app, ← hxe]; rfl)
      have hk1 : (pre ++ [x]).length = k + 1 := by rw [List.length_append, List.length_singleton, hk]
      have HK1 := Lib.hid hk1
      obtain ⟨pre1, hpre1⟩ : ∃ pre1, pre1 = pre ++ [x] := ⟨_, rfl⟩
      rw [← hpre1] at HNX HK1 ⊢
      subst hxe
      have hfnr : ∀ f, (F.inRound l2).fn f := hfn
      have hkN' : k + 1 ≤ N := by omega
      clear hT hAt h1 h2 h3 h5 h6 h7 h8 hk1 hk hpre1 hkN HT
      gi_wp2
      refine wpIn_region_held_drew (S := (fun _ => True)) (by kernel_rfl) (by first | (trivial) | ((try dsimp only); trivial)) (fun hHeld => ?_)
      refine wpAnyHIn_take hfnr (by kernel_rfl) (i := 1) (v := ?v1) rfl (by kernel_rfl) (by kernel_rfl) (by kernel_rfl) (fun _ _ _ h => h) (Or.inl ⟨by rfl, ?h1⟩) (by assumption) ?r1
      case h1 => intro w hSw; (try dsimp only at hSw); go_simp; try with_reducible rfl
      simp only [Act.put, List.getElem_toArray, List.getElem_cons_succ, List.getElem_cons_zero, List.setIfInBounds_toArray, List.set_cons_succ, List.set_cons_zero]
      refine wpAnyHIn_ready (rs := [0, 2]) (by kernel_rfl) (by simp) ?_
      refine AllReadyHIn.cons hfnr rfl (fun K hK => ?_) (AllReadyHIn.cons hfnr rfl (fun K hK => ?_) AllReadyHIn.nil)
      · go_simp
        refine hK.out _ _ (by first | (trivial) | ((try dsimp only); trivial)) (fun hHeld => ?_)
        clear hK K
        try simp only [Act.put, List.getElem_toArray, List.getElem_cons_succ, List.getElem_cons_zero, List.setIfInBounds_toArray, List.set_cons_succ, List.set_cons_zero]
        refine wpAnyHIn_ready (rs := [2]) (by kernel_rfl) (by simp) ?_
        refine AllReadyHIn.cons hfnr rfl (fun K hK => ?_) AllReadyHIn.nil
        go_simp
        gi_at_call 31
        refine (HCX.out _).mono ?_
        rintro e w7 ⟨a7, c7, rfl, hown7, hb7'⟩
        have hb7 : Below X.heap.size X w7 := hDX.trans hb7'
        have hc7 := (HCO.out _ hb7).2
        have HO7 := Lib.hid hown7
        clear hown7
        gi_wp2_with fail
        refine hK.out _ _ (by first | (trivial) | ((try dsimp only); trivial)) (fun hHeld => ?_)
        clear hK K
        try simp only [Act.put, List.getElem_toArray, List.getElem_cons_succ, List.getElem_cons_zero, List.setIfInBounds_toArray, List.set_cons_succ, List.set_cons_zero]
        refine wpAnyHIn_ready (rs := [3]) (by kernel_rfl) (by simp) ?_
        refine AllReadyHIn.cons hfnr rfl (fun K hK => ?_) AllReadyHIn.nil
        refine step_build_word_in (by rfl) (.tmp 29) a7 xn c7 (by rfl) (by rfl) ?_
        intro gB wB hcB hbB'
        have hbB : Below X.heap.size X wB := hb7.trans (hbB'.mono hb7.size)
        have hcBo := (HCO.out _ hbB).2
        have HOB := Lib.hid (ownsRow_below HO7.out hbB' (Nat.le_refl _))
        refine hK.out _ _ (by first | (trivial) | ((try dsimp only); trivial)) (fun hHeld => ?_)
        clear hK K
        try simp only [Act.put, List.getElem_toArray, List.getElem_cons_succ, List.getElem_cons_zero, List.setIfInBounds_toArray, List.set_cons_succ, List.set_cons_zero]
        refine wpAnyHIn_ready (rs := [4]) (by kernel_rfl) (by simp) ?_
        refine AllReadyHIn.cons hfnr rfl (fun K hK => ?_) AllReadyHIn.nil
        refine step_append_words_in (by rfl) (.tmp 27) (.tmp 30) (by rfl) w1.heap.size (.slice a' k c') k outs (by rfl) (H2.out.below hbB).row gB ⟨a7, xn, c7, xz⟩ (by rfl) hcB (k + 1) rfl (by omega) (by have := hbB.size; omega) ?_
        intro a9 c9 w9 hrow9 hgr9 hnil9 hwh9
        have hbx9 : Boxed wB w1.heap.size 26 (.slice a' k c') := (HCO.out _ hbB).1
        have hox9 : Boxed w9 w1.heap.size 26 (.slice a' k c') := (hgr9.block w1.heap.size (by have := hbB.size; omega) (fun e => own_ne_box (H2.out.below hbB).row hbx9 ne_ll e.symm rfl)).trans hbx9
        have hc9 : w9.cell? ⟨w1.heap.size, 0, none⟩ = some (.slice a' k c') := hox9.cell
        have hf9 : w9.frozen? ⟨w1.heap.size, 0, none⟩ = false := hox9.frozen
        have hml9 := (H2.out.below hbB).add ⟨a7, xn, c7, xz⟩ (own_mono HOB.out (by show w1.heap.size ≤ X.heap.size; omega)) HXW.out HXL.out hrow9 hgr9 hnil9
        have HE : Hid (OutI N w1.heap.size w1.heap.size w1 pre1 (fun q => O q ∨ X.heap.size ≤ q ∧ q < (w9.setCell ⟨w1.heap.size, 0, none⟩ (.slice a9 (k + 1) c9)).heap.size) (w9.setCell ⟨w1.heap.size, 0, none⟩ (.slice a9 (k + 1) c9)) ∧ Keep (fun q => ¬ O q) X (w9.setCell ⟨w1.heap.size, 0, none⟩ (.slice a9 (k + 1) c9))) := Lib.hid (by
          have hsz9 : (w9.setCell ⟨w1.heap.size, 0, none⟩ (.slice a9 (k + 1) c9)).heap.size = w9.heap.size := by simp [World.setCell]
          have hgs := hgr9.size
          have hbs := hbB.size
          have hks : Keep (fun q => q ≠ w1.heap.size) w9 (w9.setCell ⟨w1.heap.size, 0, none⟩ (.slice a9 (k + 1) c9)) := Keep.setCell _ _ _ (fun h => h rfl)
          have hbw9 : Keep (fun q => ¬ O q) wB w9 := Keep.of_grownBy hgr9 fun r e => fun h => h (H7.out r e)
          refine ⟨⟨a9, c9, outs ++ [(⟨a7, xn, c7, xz⟩ : Wd)], ?_, ?_, ?_, by rw [HK1.out]; exact hkN', .inl H5.out, ?_, ?_, ?_⟩, ((Keep.of_below hbB).mono fun q hq _ => hq).trans (hbw9.trans (Keep.setCell _ _ _ (fun h => h H5.out)))⟩
          · rw [HK1.out]; exact heap_setCell_same w9 w1.heap.size 0 _ _ (.slice a9 (k + 1) c9) hox9
          · rw [HK1.out]; exact hml9.keep hks (fun r e => own_ne_box hml9.row hox9 ne_ll e) (fun y hy r e => own_ne_box (hml9.own y hy) hox9 ne_il e)
          · rw [nums_app, H3.out, HNX.out]; rfl
          · exact (H6.out.trans (hbB.mono (by omega))).trans ((Keep.of_grownBy (S := fun q => q < w1.heap.size) hgr9 (fun r e h => by have := ((H2.out.below hbB).row.lt r e).1; omega)).below (by omega) (fun _ h => h) |>.setCell (p := ⟨w1.heap.size, 0, none⟩) (Nat.le_refl _) _)
          · intro r e; rw [HK1.out] at e; rcases hwh9 with h | h
            · rw [h] at e; exact .inl (H7.out r e)
            · rw [h] at e; simp only [Option.some.injEq] at e; exact .inr ⟨by omega, by rw [hsz9]; have := (hml9.row.lt r (by rw [h, e])).2; omega⟩
          · intro y hy r e; rcases List.mem_append.1 hy with hy | hy
            · exact .inl (H8.out y hy r e)
            · rw [List.mem_singleton.1 hy] at e; have h := HOB.out.lt r e; exact .inr ⟨h.1, by rw [hsz9]; omega⟩)
        clear hml9 hrow9 hgr9 hnil9 hwh9 hbx9 hox9
        refine hK.out _ _ (by first | (trivial) | ((try dsimp only); trivial)) (fun hHeld => ?_)
        clear hK K
        try simp only [Act.put, List.getElem_toArray, List.getElem_cons_succ, List.getElem_cons_zero, List.setIfInBounds_toArray, List.set_cons_succ, List.set_cons_zero]
        refine wpAnyHIn_ready (rs := [5]) (by kernel_rfl) (by simp) ?_
        refine AllReadyHIn.cons hfnr rfl (fun K hK => ?_) AllReadyHIn.nil
        go_simp
        refine hK.out _ _ (by first | (trivial) | ((try dsimp only); trivial)) (fun hHeld => ?_)
        clear hK K
        try simp only [Act.put, List.getElem_toArray, List.getElem_cons_succ, List.getElem_cons_zero, List.setIfInBounds_toArray, List.set_cons_succ, List.set_cons_zero]
        refine wpAnyHIn_done (by kernel_rfl) ?_ _
        clear hHeld
        exact ⟨_, HE.out.2, fun q h => h, HE.out.1⟩
      · go_simp
        gi_at_call 31
        refine (HCX.out _).mono ?_
        rintro e w7 ⟨a7, c7, rfl, hown7, hb7'⟩
        have hb7 : Below X.heap.size X w7 := hDX.trans hb7'
        have hc7 := (HCO.out _ hb7).2
        have HO7 := Lib.hid hown7
        clear hown7
        gi_wp2_with fail
        refine hK.out _ _ (by first | (trivial) | ((try dsimp only); trivial)) (fun hHeld => ?_)
        clear hK K
        try simp only [Act.put, List.getElem_toArray, List.getElem_cons_succ, List.getElem_cons_zero, List.setIfInBounds_toArray, List.set_cons_succ, List.set_cons_zero]
        refine wpAnyHIn_ready (rs := [0, 3]) (by kernel_rfl) (by simp) ?_
        refine AllReadyHIn.cons hfnr rfl (fun K hK => ?_) (AllReadyHIn.cons hfnr rfl (fun K hK => ?_) AllReadyHIn.nil)
        · go_simp
          refine hK.out _ _ (by first | (trivial) | ((try dsimp only); trivial)) (fun hHeld => ?_)
          clear hK K
          try simp only [Act.put, List.getElem_toArray, List.getElem_cons_succ, List.getElem_cons_zero, List.setIfInBounds_toArray, List.set_cons_succ, List.set_cons_zero]
          refine wpAnyHIn_ready (rs := [3]) (by kernel_rfl) (by simp) ?_
          refine AllReadyHIn.cons hfnr rfl (fun K hK => ?_) AllReadyHIn.nil
          refine step_build_word_in (by rfl) (.tmp 29) a7 xn c7 (by rfl) (by rfl) ?_
          intro gB wB hcB hbB'
          have hbB : Below X.heap.size X wB := hb7.trans (hbB'.mono hb7.size)
          have hcBo := (HCO.out _ hbB).2
          have HOB := Lib.hid (ownsRow_below HO7.out hbB' (Nat.le_refl _))
          refine hK.out _ _ (by first | (trivial) | ((try dsimp only); trivial)) (fun hHeld => ?_)
          clear hK K
          try simp only [Act.put, List.getElem_toArray, List.getElem_cons_succ, List.getElem_cons_zero, List.setIfInBounds_toArray, List.set_cons_succ, List.set_cons_zero]
          refine wpAnyHIn_ready (rs := [4]) (by kernel_rfl) (by simp) ?_
          refine AllReadyHIn.cons hfnr rfl (fun K hK => ?_) AllReadyHIn.nil
          refine step_append_words_in (by rfl) (.tmp 27) (.tmp 30) (by rfl) w1.heap.size (.slice a' k c') k outs (by rfl) (H2.out.below hbB).row gB ⟨a7, xn, c7, xz⟩ (by rfl) hcB (k + 1) rfl (by omega) (by have := hbB.size; omega) ?_
          intro a9 c9 w9 hrow9 hgr9 hnil9 hwh9
          have hbx9 : Boxed wB w1.heap.size 26 (.slice a' k c') := (HCO.out _ hbB).1
          have hox9 : Boxed w9 w1.heap.size 26 (.slice a' k c') := (hgr9.block w1.heap.size (by have := hbB.size; omega) (fun e => own_ne_box (H2.out.below hbB).row hbx9 ne_ll e.symm rfl)).trans hbx9
          have hc9 : w9.cell? ⟨w1.heap.size, 0, none⟩ = some (.slice a' k c') := hox9.cell
          have hf9 : w9.frozen? ⟨w1.heap.size, 0, none⟩ = false := hox9.frozen
          have hml9 := (H2.out.below hbB).add ⟨a7, xn, c7, xz⟩ (own_mono HOB.out (by show w1.heap.size ≤ X.heap.size; omega)) HXW.out HXL.out hrow9 hgr9 hnil9
          have HE : Hid (OutI N w1.heap.size w1.heap.size w1 pre1 (fun q => O q ∨ X.heap.size ≤ q ∧ q < (w9.setCell ⟨w1.heap.size, 0, none⟩ (.slice a9 (k + 1) c9)).heap.size) (w9.setCell ⟨w1.heap.size, 0, none⟩ (.slice a9 (k + 1) c9)) ∧ Keep (fun q => ¬ O q) X (w9.setCell ⟨w1.heap.size, 0, none⟩ (.slice a9 (k + 1) c9))) := Lib.hid (by
            have hsz9 : (w9.setCell ⟨w1.heap.size, 0, none⟩ (.slice a9 (k + 1) c9)).heap.size = w9.heap.size := by simp [World.setCell]
            have hgs := hgr9.size
            have hbs := hbB.size
            have hks : Keep (fun q => q ≠ w1.heap.size) w9 (w9.setCell ⟨w1.heap.size, 0, none⟩ (.slice a9 (k + 1) c9)) := Keep.setCell _ _ _ (fun h => h rfl)
            have hbw9 : Keep (fun q => ¬ O q) wB w9 := Keep.of_grownBy hgr9 fun r e => fun h => h (H7.out r e)
            refine ⟨⟨a9, c9, outs ++ [(⟨a7, xn, c7, xz⟩ : Wd)], ?_, ?_, ?_, by rw [HK1.out]; exact hkN', .inl H5.out, ?_, ?_, ?_⟩, ((Keep.of_below hbB).mono fun q hq _ => hq).trans (hbw9.trans (Keep.setCell _ _ _ (fun h => h H5.out)))⟩
            · rw [HK1.out]; exact heap_setCell_same w9 w1.heap.size 0 _ _ (.slice a9 (k + 1) c9) hox9
            · rw [HK1.out]; exact hml9.keep hks (fun r e => own_ne_box hml9.row hox9 ne_ll e) (fun y hy r e => own_ne_box (hml9.own y hy) hox9 ne_il e)
            · rw [nums_app, H3.out, HNX.out]; rfl
            · exact (H6.out.trans (hbB.mono (by omega))).trans ((Keep.of_grownBy (S := fun q => q < w1.heap.size) hgr9 (fun r e h => by have := ((H2.out.below hbB).row.lt r e).1; omega)).below (by omega) (fun _ h => h) |>.setCell (p := ⟨w1.heap.size, 0, none⟩) (Nat.le_refl _) _)
            · intro r e; rw [HK1.out] at e; rcases hwh9 with h | h
              · rw [h] at e; exact .inl (H7.out r e)
              · rw [h] at e; simp only [Option.some.injEq] at e; exact .inr ⟨by omega, by rw [hsz9]; have := (hml9.row.lt r (by rw [h, e])).2; omega⟩
            · intro y hy r e; rcases List.mem_append.1 hy with hy | hy
              · exact .inl (H8.out y hy r e)
              · rw [List.mem_singleton.1 hy] at e; have h := HOB.out.lt r e; exact .inr ⟨h.1, by rw [hsz9]; omega⟩)
          clear hml9 hrow9 hgr9 hnil9 hwh9 hbx9 hox9
          refine hK.out _ _ (by first | (trivial) | ((try dsimp only); trivial)) (fun hHeld => ?_)
          clear hK K
          try simp only [Act.put, List.getElem_toArray, List.getElem_cons_succ, List.getElem_cons_zero, List.setIfInBounds_toArray, List.set_cons_succ, List.set_cons_zero]
          refine wpAnyHIn_ready (rs := [5]) (by kernel_rfl) (by simp) ?_
          refine AllReadyHIn.cons hfnr rfl (fun K hK => ?_) AllReadyHIn.nil
          go_simp
          refine hK.out _ _ (by first | (trivial) | ((try dsimp only); trivial)) (fun hHeld => ?_)
          clear hK K
          try simp only [Act.put, List.getElem_toArray, List.getElem_cons_succ, List.getElem_cons_zero, List.setIfInBounds_toArray, List.set_cons_succ, List.set_cons_zero]
          refine wpAnyHIn_done (by kernel_rfl) ?_ _
          clear hHeld
          exact ⟨_, HE.out.2, fun q h => h, HE.out.1⟩
        · refine step_build_word_in (by rfl) (.tmp 29) a7 xn c7 (by rfl) (by rfl) ?_
          intro gB wB hcB hbB'
          have hbB : Below X.heap.size X wB := hb7.trans (hbB'.mono hb7.size)
          have hcBo := (HCO.out _ hbB).2
          have HOB := Lib.hid (ownsRow_below HO7.out hbB' (Nat.le_refl _))
          refine hK.out _ _ (by first | (trivial) | ((try dsimp only); trivial)) (fun hHeld => ?_)
          clear hK K
          try simp only [Act.put, List.getElem_toArray, List.getElem_cons_succ, List.getElem_cons_zero, List.setIfInBounds_toArray, List.set_cons_succ, List.set_cons_zero]
          refine wpAnyHIn_ready (rs := [0]) (by kernel_rfl) (by simp) ?_
          refine AllReadyHIn.cons hfnr rfl (fun K hK => ?_) AllReadyHIn.nil
          go_simp
          refine hK.out _ _ (by first | (trivial) | ((try dsimp only); trivial)) (fun hHeld => ?_)
          clear hK K
          try simp only [Act.put, List.getElem_toArray, List.getElem_cons_succ, List.getElem_cons_zero, List.setIfInBounds_toArray, List.set_cons_succ, List.set_cons_zero]
          refine wpAnyHIn_ready (rs := [4]) (by kernel_rfl) (by simp) ?_
          refine AllReadyHIn.cons hfnr rfl (fun K hK => ?_) AllReadyHIn.nil
          refine step_append_words_in (by rfl) (.tmp 27) (.tmp 30) (by rfl) w1.heap.size (.slice a' k c') k outs (by rfl) (H2.out.below hbB).row gB ⟨a7, xn, c7, xz⟩ (by rfl) hcB (k + 1) rfl (by omega) (by have := hbB.size; omega) ?_
          intro a9 c9 w9 hrow9 hgr9 hnil9 hwh9
          have hbx9 : Boxed wB w1.heap.size 26 (.slice a' k c') := (HCO.out _ hbB).1
          have hox9 : Boxed w9 w1.heap.size 26 (.slice a' k c') := (hgr9.block w1.heap.size (by have := hbB.size; omega) (fun e => own_ne_box (H2.out.below hbB).row hbx9 ne_ll e.symm rfl)).trans hbx9
          have hc9 : w9.cell? ⟨w1.heap.size, 0, none⟩ = some (.slice a' k c') := hox9.cell
          have hf9 : w9.frozen? ⟨w1.heap.size, 0, none⟩ = false := hox9.frozen
          have hml9 := (H2.out.below hbB).add ⟨a7, xn, c7, xz⟩ (own_mono HOB.out (by show w1.heap.size ≤ X.heap.size; omega)) HXW.out HXL.out hrow9 hgr9 hnil9
          have HE : Hid (OutI N w1.heap.size w1.heap.size w1 pre1 (fun q => O q ∨ X.heap.size ≤ q ∧ q < (w9.setCell ⟨w1.heap.size, 0, none⟩ (.slice a9 (k + 1) c9)).heap.size) (w9.setCell ⟨w1.heap.size, 0, none⟩ (.slice a9 (k + 1) c9)) ∧ Keep (fun q => ¬ O q) X (w9.setCell ⟨w1.heap.size, 0, none⟩ (.slice a9 (k + 1) c9))) := Lib.hid (by
            have hsz9 : (w9.setCell ⟨w1.heap.size, 0, none⟩ (.slice a9 (k + 1) c9)).heap.size = w9.heap.size := by simp [World.setCell]
            have hgs := hgr9.size
            have hbs := hbB.size
            have hks : Keep (fun q => q ≠ w1.heap.size) w9 (w9.setCell ⟨w1.heap.size, 0, none⟩ (.slice a9 (k + 1) c9)) := Keep.setCell _ _ _ (fun h => h rfl)
            have hbw9 : Keep (fun q => ¬ O q) wB w9 := Keep.of_grownBy hgr9 fun r e => fun h => h (H7.out r e)
            refine ⟨⟨a9, c9, outs ++ [(⟨a7, xn, c7, xz⟩ : Wd)], ?_, ?_, ?_, by rw [HK1.out]; exact hkN', .inl H5.out, ?_, ?_, ?_⟩, ((Keep.of_below hbB).mono fun q hq _ => hq).trans (hbw9.trans (Keep.setCell _ _ _ (fun h => h H5.out)))⟩
            · rw [HK1.out]; exact heap_setCell_same w9 w1.heap.size 0 _ _ (.slice a9 (k + 1) c9) hox9
            · rw [HK1.out]; exact hml9.keep hks (fun r e => own_ne_box hml9.row hox9 ne_ll e) (fun y hy r e => own_ne_box (hml9.own y hy) hox9 ne_il e)
            · rw [nums_app, H3.out, HNX.out]; rfl
            · exact (H6.out.trans (hbB.mono (by omega))).trans ((Keep.of_grownBy (S := fun q => q < w1.heap.size) hgr9 (fun r e h => by have := ((H2.out.below hbB).row.lt r e).1; omega)).below (by omega) (fun _ h => h) |>.setCell (p := ⟨w1.heap.size, 0, none⟩) (Nat.le_refl _) _)
            · intro r e; rw [HK1.out] at e; rcases hwh9 with h | h
              · rw [h] at e; exact .inl (H7.out r e)
              · rw [h] at e; simp only [Option.some.injEq] at e; exact .inr ⟨by omega, by rw [hsz9]; have := (hml9.row.lt r (by rw [h, e])).2; omega⟩
            · intro y hy r e; rcases List.mem_append.1 hy with hy | hy
              · exact .inl (H8.out y hy r e)
              · rw [List.mem_singleton.1 hy] at e; have h := HOB.out.lt r e; exact .inr ⟨h.1, by rw [hsz9]; omega⟩)
          clear hml9 hrow9 hgr9 hnil9 hwh9 hbx9 hox9
          refine hK.out _ _ (by first | (trivial) | ((try dsimp only); trivial)) (fun hHeld => ?_)
          clear hK K
          try simp only [Act.put, List.getElem_toArray, List.getElem_cons_succ, List.getElem_cons_zero, List.setIfInBounds_toArray, List.set_cons_succ, List.set_cons_zero]
          refine wpAnyHIn_ready (rs := [5]) (by kernel_rfl) (by simp) ?_
          refine AllReadyHIn.cons hfnr rfl (fun K hK => ?_) AllReadyHIn.nil
          go_simp
          refine hK.out _ _ (by first | (trivial) | ((try dsimp only); trivial)) (fun hHeld => ?_)
          clear hK K
          try simp only [Act.put, List.getElem_toArray, List.getElem_cons_succ, List.getElem_cons_zero, List.setIfInBounds_toArray, List.set_cons_succ, List.set_cons_zero]
          refine wpAnyHIn_done (by kernel_rfl) ?_ _
          clear hHeld
          exact ⟨_, HE.out.2, fun q h => h, HE.out.1⟩
  case done =>
    rintro D xsd O X hD hUD hxs1 ⟨a', c', outs, h1, h2, h3, h4, h5, h6, h7, h8⟩ hK
    have hc := h1.cell
    have kD : Keep O X (X.putObj D (.deferred none)) := Keep.putObj _ _ _ hUD
    have h2' := h2.keep kD h7 h8
    have hb' : Below w1.heap.size w1 (X.putObj D (.deferred none)) := h6.trans ((Keep.putObj (S := fun k => k < w1.heap.size) X D _ (by omega)).below h6.size (fun _ h => h))
    have hnum : nums outs = (ge l 0 zs).take N := by
      have hp := (toldG_pre HC.out zs (i := 0) (by have := (check_size HC.out).1; omega)).take hN
      rw [← hp, h3, hxs1, List.take_of_length_le]
      rw [← hxs1, nums_length]; exact h4
    have HR := Lib.hid (And.intro (h2'.lower (B' := w.heap.size) (by omega)) (And.intro hnum (HBW1.out.trans (hb'.mono (by omega)))))
    clear h1 h2 h2' h3 h5 h6 h7 h8 kD hb' hnum hxs1
    gi_wp2
    refine ⟨by simp, .inl ⟨_, _, rfl, run_takeDeferred hK, ?_⟩⟩
    exact ⟨_, results_tmp2 rfl _ _ _, a', xsd.length, c', outs, rfl, HR.out.1, HR.out.2.1, HR.out.2.2⟩
  case stop =>
    rintro D c pre O X hD hUD - ⟨rfl, a', c', outs, h1, h2, h3, h5, h6, h7, h8⟩ hK
    have hc := h1.cell
    have kD : Keep O X (X.putObj D (.deferred none)) := Keep.putObj _ _ _ hUD
    have h2' := h2.keep kD h7 h8
    have hb' : Below w1.heap.size w1 (X.putObj D (.deferred none)) := h6.trans ((Keep.putObj (S := fun k => k < w1.heap.size) X D _ (by omega)).below h6.size (fun _ h => h))
    have hnum : nums outs = (ge l 0 zs).take N := by
      have hp := (toldG_pre HC.out zs (i := 0) (by have := (check_size HC.out).1; omega)).take hN
      rw [← hp, h3]
    have HR := Lib.hid (And.intro (h2'.lower (B' := w.heap.size) (by omega)) (And.intro hnum (HBW1.out.trans (hb'.mono (by omega)))))
    clear h1 h2 h2' h3 h5 h6 h7 h8 kD hb' hnum
    gi_wp2
    refine ⟨by simp, .inl ⟨_, _, rfl, run_takeDeferred hK, ?_⟩⟩
    exact ⟨_, results_tmp2 rfl _ _ _, a', N, c', outs, rfl, HR.out.1, HR.out.2.1, HR.out.2.2⟩

def ToldW (w : World) (L : List (List Int)) (er : Int) (e : Ending) (w' : World) : Prop := ∃ a' k c' outs, e = .returned (.tuple #[.slice a' k c', .int .i64 er]) ∧ Ml w.heap.size w' a' k c' outs ∧ nums outs = L ∧ Below w.heap.size w w'
set_option maxRecDepth 100000 in
set_option maxHeartbeats 1600000 in
theorem wfrom_is (a b : Option Addr) (len cap m cap2 : Nat) (xs : List Sw) (zs : List Int) (n : Int) (w : World) (L : List (List Int)) (er : Int) (hx : Ss w a len cap xs) (hz : Sl .i64 w b m cap2 zs) (hnil : b = none → cap2 = 0) (hr : fromC (sts xs) zs n = (L, er)) :
    Calls Try.prog 12 #[.slice a len cap, .slice b m cap2, .int .i64 n] w fun e w' => ToldW w L er e w' := by
  have HX := Lib.hid hx
  cases hcc : check (sts xs)
  · have hr0 : L = [] ∧ er = 100 := by unfold fromC at hr; rw [if_pos hcc] at hr; cases hr; exact ⟨rfl, rfl⟩
    obtain ⟨rfl, rfl⟩ := hr0
    have HB0 : ∀ o, Hid (Below w.heap.size w (w.alloc o)) := fun o => Lib.hid ((Below.refl _ w).alloc (Nat.le_refl _) o)
    clear hx hr hz hnil
    go_enter Try.func12, Try.ntmps12
    go_wp2_with (go_at_call 29; refine (tcheck_is a len cap xs false _ (HX.out.alloc _) hcc).mono ?_; rintro e w1 ⟨rfl, hb1⟩)
    go_ret2
    exact ⟨none, 0, 0, [], rfl, Ml.start _ _, rfl, (HB0 _).out.trans (hb1.mono (by simp))⟩
  · by_cases hn0 : n < 0
    · have hr0 : L = [] ∧ er = 1 := by unfold fromC at hr; rw [if_neg (by rw [hcc]; exact Bool.noConfusion), if_pos (.inl hn0)] at hr; cases hr; exact ⟨rfl, rfl⟩
      obtain ⟨rfl, rfl⟩ := hr0
      have HB0 : ∀ o, Hid (Below w.heap.size w (w.alloc o)) := fun o => Lib.hid ((Below.refl _ w).alloc (Nat.le_refl _) o)
      have hd : decide (n < 0) = true := decide_eq_true hn0
      clear hx hr hz hnil
      go_enter Try.func12, Try.ntmps12
      go_wp2_with (go_at_call 29; refine (tcheck_is a len cap xs true _ (HX.out.alloc _) hcc).mono ?_; rintro e w1 ⟨rfl, hb1⟩; have hbn : w1.cell? ⟨w.heap.size, 0, none⟩ = some (.int .i64 n) := (by rw [hb1.cell (p := ⟨w.heap.size, 0, none⟩) (by simp)]; rw [cell_of_obj (heap_alloc_new w _)]; rfl); have HB1 := Lib.hid hb1; clear hb1)
      go_ret2
      exact ⟨none, 0, 0, [], rfl, Ml.start _ _, rfl, (HB0 _).out.trans (HB1.out.mono (by simp))⟩
    · by_cases hn3 : 300 < n
      · have hr0 : L = [] ∧ er = 1 := by unfold fromC at hr; rw [if_neg (by rw [hcc]; exact Bool.noConfusion), if_pos (.inr hn3)] at hr; cases hr; exact ⟨rfl, rfl⟩
        obtain ⟨rfl, rfl⟩ := hr0
        have HB0 : ∀ o, Hid (Below w.heap.size w (w.alloc o)) := fun o => Lib.hid ((Below.refl _ w).alloc (Nat.le_refl _) o)
        have hd : decide (n < 0) = false := decide_eq_false hn0
        have hd3 : decide (n > 300) = true := decide_eq_true hn3
        clear hx hr hz hnil
        go_enter Try.func12, Try.ntmps12
        go_wp2_with (go_at_call 29; refine (tcheck_is a len cap xs true _ (HX.out.alloc _) hcc).mono ?_; rintro e w1 ⟨rfl, hb1⟩; have hbn : w1.cell? ⟨w.heap.size, 0, none⟩ = some (.int .i64 n) := (by rw [hb1.cell (p := ⟨w.heap.size, 0, none⟩) (by simp)]; rw [cell_of_obj (heap_alloc_new w _)]; rfl); have HB1 := Lib.hid hb1; clear hb1)
        go_ret2
        exact ⟨none, 0, 0, [], rfl, Ml.start _ _, rfl, (HB0 _).out.trans (HB1.out.mono (by simp))⟩
      · obtain ⟨N, rfl⟩ : ∃ N : Nat, n = (N : Int) := ⟨n.toNat, by omega⟩
        have hr0 : L = (ge (sts xs) 0 zs).take N ∧ er = 0 := by unfold fromC at hr; rw [if_neg (by rw [hcc]; exact Bool.noConfusion), if_neg (by omega), Int.toNat_natCast] at hr; cases hr; exact ⟨rfl, rfl⟩
        obtain ⟨rfl, rfl⟩ := hr0
        exact from_good hcc a b len cap m cap2 xs zs N (by omega) w hx rfl hz hnil
theorem words_from {l : List St} (h : (wds l 0).length ≤ 300 ∨ check l = false) : fromC l [] 300 = wordsC l := by
  unfold fromC wordsC
  cases hc : check l
  · rfl
  · rcases h with h | h
    · rw [if_neg (by simp), if_neg (by omega), if_neg (by simp), if_neg (by omega), ge_nil, show (300 : Int).toNat = 300 from rfl, List.take_of_length_le (by omega)]
    · rw [hc] at h; cases h
set_option maxRecDepth 100000 in
set_option maxHeartbeats 1600000 in
theorem wwords_is (a : Option Addr) (len cap : Nat) (xs : List Sw) (w : World) (L : List (List Int)) (er : Int) (hx : Ss w a len cap xs) (hr : wordsC (sts xs) = (L, er)) :
    Calls Try.prog 10 #[.slice a len cap] w fun e w' => ToldW w L er e w' := by
  have HX := Lib.hid hx
  by_cases hm : check (sts xs) = true ∧ 300 < (wds (sts xs) 0).length
  · have hr0 : L = [] ∧ er = 81 := by unfold wordsC at hr; rw [if_neg (by rw [hm.1]; exact Bool.noConfusion), if_pos hm.2] at hr; cases hr; exact ⟨rfl, rfl⟩
    obtain ⟨rfl, rfl⟩ := hr0
    have hmc : manyC (sts xs) = 301 := by unfold manyC; rw [if_pos hm.1]; unfold mny; omega
    clear hx hr hm
    go_enter Try.func10, Try.ntmps10
    go_wp2_with (go_at_call 17; refine (wmany_is a len cap xs _ 301 HX.out hmc).mono ?_; rintro e w1 ⟨rfl, hb1⟩)
    go_ret2
    exact ⟨none, 0, 0, [], rfl, Ml.start _ _, rfl, hb1⟩
  · have hmc : manyC (sts xs) ≤ 300 := by
      unfold manyC
      split
      · rename_i h; unfold mny; have : ¬ 300 < (wds (sts xs) 0).length := fun h' => hm ⟨h, h'⟩; omega
      · omega
    have hfr : fromC (sts xs) [] 300 = (L, er) := by
      rw [words_from, hr]
      cases hcc : check (sts xs)
      · exact .inr rfl
      · exact .inl (by have : ¬ 300 < (wds (sts xs) 0).length := fun h' => hm ⟨hcc, h'⟩; omega)
    obtain ⟨r, hr1⟩ : ∃ r, manyC (sts xs) = r := ⟨_, rfl⟩
    rw [hr1] at hmc
    have hng : ¬ (300 : Int) < (r : Int) := by omega
    have hdg : decide ((r : Int) > 300) = false := decide_eq_false (by omega)
    clear hx hr hm hmc
    go_enter Try.func10, Try.ntmps10
    go_wp2_with (first
      | (go_at_call 17; refine (wmany_is a len cap xs _ r HX.out hr1).mono ?_; rintro e w1 ⟨rfl, hb1⟩)
      | (go_at_call 12; refine (wfrom_is a none len cap 0 0 xs [] 300 w1 L er (HX.out.below hb1 (Nat.le_refl _)) Sl.nil (fun _ => rfl) hfr).mono ?_; rintro e w2 ⟨a', k, c', outs, rfl, h1, h2, h3⟩))
    go_ret2
    exact ⟨a', k, c', outs, rfl, h1.lower hb1.size, h2, hb1.trans (h3.mono hb1.size)⟩
end Go.Proofs.Ytimjdlbhbiklgaa
