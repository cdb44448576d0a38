/- Split, Fields, Bare: what they answer. -/
import Derived.IntWalk
import Derived.Test.YtflikfnehpaohaaLineIterC
namespace Go.Proofs.Ytflikfnehpaohaa
open Go.RowKit Go.Shelf
attribute [local go_sem] Oper.semAt_some

set_option maxRecDepth 100000 in
theorem RowsIs.later {w w1 w' : World} {e : Ending} {l : List (List Int)} (h : RowsIs w1 w' e l) (hb : Below w.heap.size w w1) : RowsIs w w' e l := by
  obtain ⟨a', m, c', ys, h1, h2, h3, h4, h5⟩ := h
  exact ⟨a', m, c', ys, h1, h2, h3, h4, hb.trans (h5.mono hb.size)⟩

set_option maxRecDepth 100000 in
set_option maxHeartbeats 2000000 in
theorem fields_any (a : Option Addr) (n cap : Nat) (zs : List Int) (w : World) (hs : Sl .u8 w a n cap zs) (hnil : a = none → cap = 0) (hn : n ≤ 1000000) :
    Calls Try.prog 19 #[.slice a n cap] w fun e w' => RowsIs w w' e (Line.fields zs) := by
  refine (callsIn_wide (n := 20)).1 ?_
  obtain ⟨F, hF⟩ : ∃ F, F = Fence.wide := ⟨_, rfl⟩
  have hfn : ∀ f, F.fn f := by subst hF; exact fun _ => trivial
  have hro : F.round = none := by subst hF; rfl
  have hd : F.depth = none := by subst hF; rfl
  rw [← hF]
  clear hF
  refine callsIn_of_wp Try.func19 rfl (hfn _) ?_ hro
  simp only [Try.ntmps19, List.size_toArray, List.length_cons, List.length_nil, Nat.reduceAdd, Nat.reduceSub, Array.replicate_succ, Array.replicate_zero, List.push_toArray, List.append_toArray, List.nil_append, List.cons_append]
  have hf1 := hfn 44
  have hf2 := hfn 41
  have hb1 : Below w.heap.size w (w.alloc (.cells #[.slice a n cap] 22)) := (Below.refl _ w).alloc (Nat.le_refl _) _
  have bA := Boxed.new w 22 (.slice a n cap)
  have hown : CallsIn F (20 - 1) Try.prog 41 #[.func (.func 61) #[] #[.pointer (some ⟨w.heap.size, 0, none⟩)]] (w.alloc (.cells #[.slice a n cap] 22)) fun e w' => RowsOwn (w.alloc (.cells #[.slice a n cap] 22)) w' e (Line.fields zs) :=
    own_in F (20 - 1) hfn hd hro w _ hb1 (fun x : Pn w => x.1) (fun x => x.2.1) 61 #[.pointer (some ⟨w.heap.size, 0, none⟩)] (enters_of Try.func61 (by kernel_rfl) rfl)
      (fun k => k < w.heap.size ∨ k = w.heap.size) (by rintro k (h | rfl) <;> simp <;> omega) (Line.fields zs) _ (n + 1) (by omega)
      (fields_iter F (20 - 1 - 1) hfn hd hro (by omega) w.heap.size a n cap zs w hs hn hnil _ (by simp) hb1 bA.cell)
  have HB := Lib.hid hb1
  clear hb1 bA hs
  gi_wp2_with (first
    | (gi_at_call 44; refine (fields_in F _ (hfn _) hro _ _ _ _).mono ?_; rintro e w' ⟨rfl, rfl⟩)
    | (gi_at_call 41; refine hown.mono ?_; rintro e w' ⟨a', m, c', ys, rfl, h2, h3, h4, h5, _⟩))
  go_ret
  exact ⟨a', m, c', ys, rfl, h2, h3, h4, HB.out.trans (h5.mono HB.out.size)⟩

set_option maxRecDepth 100000 in
theorem trim_last {l : List (List Int)} {k : Nat} (h : l.length = k + 1) : trim l = if l.getD k [] = [] then l.take k else l := by
  unfold trim
  have h1 : l.getLast? = some (l.getD k []) := by
    rw [List.getLast?_eq_getElem?, List.getD_eq_getElem?_getD, h, Nat.add_sub_cancel]
    rw [List.getElem?_eq_getElem (by omega)]
    rfl
  rw [h1, List.dropLast_eq_take, h, Nat.add_sub_cancel]
  simp

set_option maxRecDepth 100000 in
theorem last_of {ys : List Bd} {l : List (List Int)} {m : Nat} (h1 : ys.length = m) (h2 : bnums ys = l) (h3 : l ≠ []) : ∃ k, m = k + 1 := by
  refine ⟨m - 1, ?_⟩
  have h := congrArg List.length h2
  rw [bnums_length, h1] at h
  have : 0 < l.length := List.length_pos_iff.2 h3
  omega

set_option maxRecDepth 100000 in
set_option maxHeartbeats 2000000 in
theorem split_own (a : Option Addr) (n cap : Nat) (zs : List Int) (w : World) (hs : Sl .u8 w a n cap zs) (hnil : a = none → cap = 0) (hn : n ≤ 1000000) :
    Calls Try.prog 17 #[.slice a n cap] w fun e w' => RowsOwn w w' e (Line.split zs) := by
  refine (callsIn_wide (n := 20)).1 ?_
  obtain ⟨F, hF⟩ : ∃ F, F = Fence.wide := ⟨_, rfl⟩
  have hfn : ∀ f, F.fn f := by subst hF; exact fun _ => trivial
  have hro : F.round = none := by subst hF; rfl
  have hd : F.depth = none := by subst hF; rfl
  rw [← hF]
  clear hF
  refine callsIn_of_wp Try.func17 rfl (hfn _) ?_ hro
  simp only [Try.ntmps17, List.size_toArray, List.length_cons, List.length_nil, Nat.reduceAdd, Nat.reduceSub, Array.replicate_succ, Array.replicate_zero, List.push_toArray, List.append_toArray, List.nil_append, List.cons_append]
  have hf1 := hfn 42
  have hf2 := hfn 41
  obtain ⟨w2, hw2⟩ : ∃ w2, w2 = (w.alloc (.cells #[.slice a n cap] 22)).alloc (.cells #[.func (.func 43) #[] #[]] 61) := ⟨_, rfl⟩
  have hb1 : Below w.heap.size w w2 := by rw [hw2]; exact ((Below.refl _ w).alloc (Nat.le_refl _) _).alloc (by simp) _
  have z2 : w2.heap.size = w.heap.size + 1 + 1 := by rw [hw2]; simp
  have bA : Boxed w2 w.heap.size 22 (.slice a n cap) := by rw [hw2]; exact (Boxed.new w 22 (.slice a n cap)).alloc _
  have bF : Boxed w2 (w.heap.size + 1) 61 (.func (.func 43) #[] #[]) := by
    rw [hw2]; have := Boxed.new (w.alloc (.cells #[.slice a n cap] 22)) 61 (.func (.func 43) #[] #[]); rwa [World.size_alloc] at this
  have hown : CallsIn F (20 - 1) Try.prog 41 #[.func (.func 60) #[] #[.pointer (some ⟨w.heap.size, 0, none⟩), .pointer (some ⟨w.heap.size + 1, 0, none⟩)]] w2 fun e w' => RowsOwn w2 w' e (partsA (fun c => c == 10) [] zs) :=
    own_in F (20 - 1) hfn hd hro w _ hb1 (fun x : Pc w => x.1) (fun x => x.2) 60 _ (enters_of Try.func60 (by kernel_rfl) rfl)
      (fun k => k < w.heap.size ∨ k = w.heap.size ∨ k = w.heap.size + 1) (by rintro k (h | rfl | rfl) <;> omega) (partsA (fun c => c == 10) [] zs) _ (n + 1) (by omega)
      (pieces_iter F (20 - 1 - 1) (hfn _) 43 (hfn _) hro (by omega) w.heap.size (w.heap.size + 1) a n cap zs w hs hn hnil (fun c => c == 10) isEnd_enters (fun c W => isEnd_in F _ (hfn _) hro c W) w2 (by omega) (by omega) hb1 bA.cell bF.cell)
  have HB := Lib.hid hb1
  have HW := Lib.hid hw2
  have hne := partsA_ne (fun c => c == 10) zs []
  have hsp := split_parts zs
  obtain ⟨l, hl⟩ : ∃ l, l = partsA (fun c => c == 10) [] zs := ⟨_, rfl⟩
  rw [← hl] at hown hne hsp
  have HSP := Lib.hid hsp
  clear hb1 bA bF hs hw2 hl hsp
  gi_wp2_with (gi_at_call 42; refine (pieces_in F _ (hfn _) hro _ _ _ _ _).mono ?_; rintro e w' ⟨rfl, rfl⟩; rw [← HW.out])
  refine hown.mono ?_
  rintro e w' ⟨a', m, c', ys, rfl, h2, h3, h4, h5, h6⟩
  obtain ⟨k, hmk⟩ : ∃ k, m = k + 1 := last_of h2.1 h3 hne
  have hcm := h2.2.2.1
  have hmc := h2.2.1
  unfold maxLen at hcm
  have hwk : wrap64 ((m : Int) - 1) = (k : Int) := by rw [show (m : Int) - 1 = (k : Int) from by omega]; unfold wrap64; omega
  obtain ⟨b, off, a1, n1, c1, z1, rfl, _, hgd, hc1, hs1, hz1⟩ := h2.one k (by omega)
  have hkm : (k : Int) < (m : Int) := by omega
  have hk0 : (0 : Int) ≤ (k : Int) := by omega
  have hkc : (k : Int) ≤ (c' : Int) := by omega
  have htr := trim_last (l := l) (k := k) (by rw [← h3, bnums_length, h2.1, hmk])
  rw [← h3, hz1, h3] at htr
  have HMK := Lib.hid hmk
  have H2 := Lib.hid h2
  have H3 := Lib.hid h3
  by_cases hz : z1 = []
  · have hn1 : ((n1 : Int) == 0) = true := by have := hs1.1; rw [hz] at this; simp at this; simp [← this]
    rw [if_pos hz] at htr
    have HTR := Lib.hid htr
    clear hmk h2 h3 h4 hz1 hs1 hgd hne hmc hz htr
    gi_wp2
    go_ret
    refine ⟨_, k, c', ys.take k, rfl, H2.out.first k (by have := HMK.out; omega), ?_, (fun h => by cases h), HB.out.trans (h5.mono HB.out.size), fun y hy => h6 y (List.mem_of_mem_take hy)⟩
    rw [← HSP.out, HTR.out, ← H3.out]
    simp [bnums]
  · have hn1 : ((n1 : Int) == 0) = false := by
      simp only [beq_eq_false_iff_ne]
      intro h
      apply hz
      exact List.eq_nil_of_length_eq_zero (by rw [hs1.1]; omega)
    rw [if_neg hz] at htr
    have HTR := Lib.hid htr
    clear hmk h2 h3 h4 hz1 hs1 hgd hne hmc hz htr
    gi_wp2
    go_ret
    exact ⟨_, m, c', ys, rfl, H2.out, by rw [← HSP.out, HTR.out, ← H3.out], (fun h => by cases h), HB.out.trans (h5.mono HB.out.size), h6⟩

set_option maxRecDepth 100000 in
theorem split_any (a : Option Addr) (n cap : Nat) (zs : List Int) (w : World) (hs : Sl .u8 w a n cap zs) (hnil : a = none → cap = 0) (hn : n ≤ 1000000) :
    Calls Try.prog 17 #[.slice a n cap] w fun e w' => RowsIs w w' e (Line.split zs) :=
  (split_own a n cap zs w hs hnil hn).mono fun _ _ h => h.is

set_option maxRecDepth 100000 in
theorem bare_none {zs : List Int} (h : ([] : List (List Int)) = Line.fields zs) : Line.bare zs = true := by
  unfold Line.bare; rw [← h]
set_option maxRecDepth 100000 in
theorem bare_some {zs z : List Int} {k : Nat} (h : [z] = (Line.fields zs).take k) : Line.bare zs = (z.getD 0 0 == 35) := by
  unfold Line.bare
  cases hf : Line.fields zs with
  | nil => rw [hf] at h; simp at h
  | cons y ys =>
    rw [hf] at h
    cases k with
    | zero => simp at h
    | succ k => rw [List.take_succ_cons] at h; simp only [List.cons.injEq] at h; rw [h.1]

/-- Bare's loop: no field has come; and where the first has left it -/
def BareAt (w : World) (pre : List (Pn w)) (U : Nat → Prop) (X : World) : Prop :=
  pre = [] ∧ Boxed X w.heap.size 4 (.bool false) ∧ U w.heap.size ∧ Below w.heap.size w X ∧ w.heap.size + 1 ≤ X.heap.size
def BareEnd (w : World) (c : Code) (pre : List (Pn w)) (U : Nat → Prop) (X : World) : Prop :=
  c = .ret ∧ ∃ x, pre = [x] ∧ Boxed X w.heap.size 4 (.bool (x.1.zs.getD 0 0 == 35)) ∧ U w.heap.size ∧ Below w.heap.size w X ∧ w.heap.size + 1 ≤ X.heap.size

set_option maxRecDepth 100000 in
set_option maxHeartbeats 4000000 in
theorem bare_any (a : Option Addr) (n cap : Nat) (zs : List Int) (w : World) (hs : Sl .u8 w a n cap zs) (hnil : a = none → cap = 0) (hn : n ≤ 1000000) :
    Calls Try.prog 18 #[.slice a n cap] w fun e w' => e = .returned (.bool (Line.bare zs)) ∧ Below w.heap.size w w' := by
  refine (callsIn_wide (n := 20)).1 ?_
  obtain ⟨F, hF⟩ : ∃ F, F = Fence.wide := ⟨_, rfl⟩
  have hfn : ∀ f, F.fn f := by subst hF; exact fun _ => trivial
  have hro : F.round = none := by subst hF; rfl
  have hd : F.depth = none := by subst hF; rfl
  rw [← hF]
  clear hF
  refine callsIn_of_wp_marks Try.func18 rfl (hfn _) ?_ hro
  simp only [Try.ntmps18, List.size_toArray, List.length_cons, List.length_nil, Nat.reduceAdd, Nat.reduceSub, Array.replicate_succ, Array.replicate_zero, List.push_toArray, List.append_toArray, List.nil_append, List.cons_append]
  have hf1 := hfn 44
  gi_wp2_with (gi_at_call 44; refine (fields_in F _ (hfn _) hro _ _ _ _).mono ?_; rintro e w' ⟨rfl, rfl⟩)
  have bO := Boxed.new w 4 (.bool false)
  obtain ⟨w1, hw1⟩ : ∃ w1, w1 = w.alloc (.cells #[.bool false] 4) := ⟨_, rfl⟩
  have z1 : w1.heap.size = w.heap.size + 1 := by rw [hw1]; simp
  rw [← hw1] at bO ⊢
  have bA := Boxed.new w1 22 (.slice a n cap)
  obtain ⟨w2, hw2⟩ : ∃ w2, w2 = w1.alloc (.cells #[.slice a n cap] 22) := ⟨_, rfl⟩
  have z2 : w2.heap.size = w.heap.size + 1 + 1 := by rw [hw2]; simp [z1]
  rw [← hw2] at bA ⊢
  have bO2 : Boxed w2 w.heap.size 4 (.bool false) := by rw [hw2]; exact bO.alloc _
  have bA2 : Boxed w2 (w.heap.size + 1) 22 (.slice a n cap) := by rw [← z1]; exact bA
  have hB0 : Below w.heap.size w w2 := by
    rw [hw2, hw1]
    exact ((Below.refl _ w).alloc (Nat.le_refl _) _).alloc (by simp) _
  clear bO bA hw1 hw2
  refine wpIn_range_iter hro (fun h => by rw [hd] at h; cases h) (gf := 61) (lb := #[.pointer (some ⟨w.heap.size + 1, 0, none⟩)]) rfl (hfn _) (enters_of Try.func61 (by kernel_rfl) rfl)
    (fields_iter F (20 - 1) hfn hd hro (by omega) (w.heap.size + 1) a n cap zs w hs hn hnil w2 (by omega) hB0 bA2.cell)
    (Keep.refl _ _) (by rintro k (h | rfl) <;> omega) (fun _ => rfl)
    (BareAt w) (BareEnd w)
    (by
      rintro pre U X Y ⟨h1, h2, h3, h4, h5⟩ hk
      exact ⟨h1, hk.boxed h2 (.inr h3), h3, h4.trans (hk.below (by omega) (fun k hk => .inl (by omega))), Nat.le_trans h5 hk.size⟩)
    (by
      rintro c pre U X Y ⟨hc, x, h1, h2, h3, h4, h5⟩ hk
      exact ⟨hc, x, h1, hk.boxed h2 (.inr h3), h3, h4.trans (hk.below (by omega) (fun k hk => .inl (by omega))), Nat.le_trans h5 hk.size⟩)
    (fun k => k = w.heap.size) (fun k hk => ⟨by rintro (h | h) <;> omega, by omega⟩)
    ⟨rfl, bO2, rfl, hB0, by omega⟩
    (fun x => { tmps := #[.slice a n cap, undef, .pointer (some ⟨w.heap.size, 0, none⟩), x.1.v, .slice a n cap, .func (.func 61) #[] #[.pointer (some ⟨w.heap.size + 1, 0, none⟩)], x.1.v, undef, undef, undef, undef], defers := [] }) ?assign ?body ?done ?stop
  case assign =>
    intro l x W K hK
    gi_wp2
    exact hK
  case body =>
    rintro l pre x U X ⟨rfl, hbx, hU, hB, hz⟩ hlt hsz
    obtain ⟨⟨xa, xn, xc, xz⟩, hx⟩ := x
    have hxs : Sl .u8 w xa xn xc xz := hx.1.1
    have hne : xz ≠ [] := hx.2
    have hn0 : 0 < xn := by rw [← hxs.1]; exact List.length_pos_iff.2 hne
    have h0i : (0 : Int) < (xn : Int) := by omega
    obtain ⟨b2, o2, rfl, _, hc2⟩ := (hxs.below hB (Nat.le_refl _)).at (by omega)
    have hx2 : X.cell? ⟨b2, o2, none⟩ = some (.int .u8 (xz.getD 0 0)) := hc2 0 (by omega)
    have hcr := hbx.cell
    have hfr := hbx.frozen
    dsimp only [Bd.v]
    clear hc2 hxs hne hn0
    gi_wp2
    exact ⟨U, Keep.setCell _ _ _ (fun h => h hU), fun _ h => .inl h, rfl, _, rfl, hbx.set _, hU, hB.setCell (p := ⟨w.heap.size, 0, none⟩) (Nat.le_refl _) _, Nat.le_trans hz (grownBy_setCell' X w.heap.size _).size⟩
  case done =>
    rintro D ys U X hD hUD hys ⟨rfl, hbx, hU, hB, hz⟩ hK
    have hcr := hbx.cell
    have hfr := hbx.frozen
    gi_wp2
    have hK' := (KeepsOthers.setCell X ⟨w.heap.size, 0, none⟩ (.bool true)).same D _ hK rfl
    refine ⟨by simp, .inl ⟨_, _, rfl, run_takeDeferred hK', ?_⟩⟩
    have hc5 := cell_kept (World.cell?_setCell_same' X ⟨w.heap.size, 0, none⟩ (.bool true) (by rw [hcr]; rfl)) (grownBy_putObj' _ D (.deferred none)) (fun r e => by cases e; exact ⟨_, hK', rfl⟩)
    have hz : Line.bare zs = true := bare_none hys
    refine ⟨.bool true, ?_, by rw [hz], (hB.setCell (p := ⟨w.heap.size, 0, none⟩) (Nat.le_refl _) _).trans (belowK_b (w := w) (Nat.le_refl _) _ D _ _ (by omega) hK' rfl rfl)⟩
    simp [results, Try.f18, go_sem, hc5]
  case stop =>
    rintro D c pre U X hD hUD ⟨k, hk⟩ ⟨rfl, x, rfl, hbx, hU, hB, hz⟩ hK
    have hcr := hbx.cell
    gi_wp2
    refine ⟨by simp, .inl ⟨_, _, rfl, run_takeDeferred hK, ?_⟩⟩
    have hc5 := cell_kept hcr (grownBy_putObj' _ D (.deferred none)) (fun r e => by cases e; exact ⟨_, hK, rfl⟩)
    have hz : Line.bare zs = (x.1.zs.getD 0 0 == 35) := bare_some hk
    refine ⟨.bool (x.1.zs.getD 0 0 == 35), ?_, by rw [hz], hB.trans (belowK_b (w := w) (Nat.le_refl _) X D _ _ (by omega) hK rfl rfl)⟩
    simp [results, Try.f18, go_sem, hc5]

end Go.Proofs.Ytflikfnehpaohaa
