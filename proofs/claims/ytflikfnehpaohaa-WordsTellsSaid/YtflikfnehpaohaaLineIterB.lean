/- The iterator over the fields of a line: it ranges over the parts, and hands on those that hold a byte. -/
import Derived.Test.YtflikfnehpaohaaLineParts
namespace Go.Proofs.Ytflikfnehpaohaa
open Go.RowKit Go.Shelf
attribute [local go_sem] Oper.semAt_some

/-- a row of bytes, some, that reads in the world W0, no longer than a million -/
abbrev Pn (W0 : World) := { x : Bd // (x.Good W0 ∧ x.n ≤ 1000000) ∧ x.zs ≠ [] }

set_option maxRecDepth 100000 in
theorem filter_take {α : Type} (p : α → Bool) (l : List α) (k : Nat) : ∃ m, (l.take k).filter p = (l.filter p).take m := by
  refine ⟨((l.take k).filter p).length, ?_⟩
  have h : l.filter p = (l.take k).filter p ++ (l.drop k).filter p := by rw [← List.filter_append, List.take_append_drop]
  rw [h, List.take_left]

set_option maxRecDepth 100000 in
set_option maxHeartbeats 1000000 in
/-- the maker: one box, and a function value that has caught it -/
theorem fields_in (F : Fence) (n : Nat) (h5 : F.fn 44) (hro : F.round = none) (a : Option Addr) (len cap : Nat) (w : World) :
    CallsIn F n Try.prog 44 #[.slice a len cap] w fun e w' => e = .returned (.func (.func 61) #[] #[.pointer (some ⟨w.heap.size, 0, none⟩)]) ∧ w' = w.alloc (.cells #[.slice a len cap] 22) := by
  refine callsIn_of_wp Try.func44 rfl h5 ?_ hro
  simp only [Try.ntmps44, List.size_toArray, List.length_cons, List.length_nil, Nat.reduceAdd, Nat.reduceSub, Array.replicate_succ, Array.replicate_zero, List.push_toArray, List.append_toArray, List.nil_append, List.cons_append]
  gi_wp2
  go_ret
  exact ⟨rfl, rfl⟩

/-- what stands between two rounds: those of the parts that hold a byte have been handed on; and where one of these has said 'no more' -/
def FieldsAt (W0 W : World) (l : Nat) (J : List (Pn W0) → (Nat → Prop) → World → Prop) (pre : List (Pc W0)) (U : Nat → Prop) (X : World) : Prop :=
  ∃ pre' : List (Pn W0), pre'.map (fun x : Pn W0 => x.1.zs) = (pre.map (fun x : Pc W0 => x.1.zs)).filter (fun z => z ≠ []) ∧ pre'.length ≤ pre.length ∧ J pre' U X ∧ X.cell? ⟨W.heap.size, 0, none⟩ = some (.func (.yield l) #[] #[]) ∧ ¬ U W.heap.size
def FieldsEnd (W0 : World) (Jx : List (Pn W0) → (Nat → Prop) → World → Prop) (c : Code) (pre : List (Pc W0)) (U : Nat → Prop) (X : World) : Prop :=
  c = .ret ∧ ∃ pre' : List (Pn W0), pre'.map (fun x : Pn W0 => x.1.zs) = (pre.map (fun x : Pc W0 => x.1.zs)).filter (fun z => z ≠ []) ∧ Jx pre' U X

set_option maxRecDepth 100000 in
set_option maxHeartbeats 4000000 in
theorem fields_iter (F : Fence) (n : Nat) (hfn : ∀ f, F.fn f) (hd : F.depth = none) (hro : F.round = none) (hn : 4 ≤ n) (B : Nat) (a : Option Addr) (len cap : Nat) (zs : List Int) (W0 : World) (hs : Sl .u8 W0 a len cap zs) (hlm : len ≤ 1000000) (hnil : a = none → cap = 0)
    (w : World) (hB : B < w.heap.size) (hb : Below W0.heap.size W0 w) (c1 : w.cell? ⟨B, 0, none⟩ = some (.slice a len cap)) :
    Iter F n Try.prog 61 #[.pointer (some ⟨B, 0, none⟩)] (fun x : Pn W0 => #[x.1.v]) (fun k => k < W0.heap.size ∨ k = B)
      (fun ys => ys.map (fun x : Pn W0 => x.1.zs) = Line.fields zs) (fun pre => ∃ k, pre.map (fun x : Pn W0 => x.1.zs) = (Line.fields zs).take k) (len + 1) w := by
  intro l J Jx O W hW hO hJ hJx hY h0
  have c2 := hW.cell c1 (.inr rfl)
  have hbW : Below W0.heap.size W0 W := hb.trans (hW.below hb.size (fun _ h => .inl h))
  have hBW : B < W.heap.size := Nat.lt_of_lt_of_le hB hW.size
  clear c1
  refine callsIn_of_wp_marks Try.func61 rfl (hfn _) ?_ hro
  simp only [Try.ntmps61, List.size_toArray, List.length_cons, List.length_nil, Nat.reduceAdd, Nat.reduceSub, Array.replicate_succ, Array.replicate_zero, List.push_toArray, List.append_toArray, List.nil_append, List.cons_append]
  have hf1 := hfn 42
  have HS := Lib.hid hs
  have HY := Lib.hid hY
  have HJ := Lib.hid hJ
  have HJX := Lib.hid hJx
  have HO := Lib.hid hO
  have H0 := Lib.hid h0
  have HN := Lib.hid hnil
  clear hs hY hJ hJx hO h0 hnil hW
  gi_wp2_with (first | (gi_at_call 42; refine (pieces_in F _ (hfn _) hro _ _ _ _ _).mono ?_; rintro e w' ⟨rfl, rfl⟩))
  have bO := Boxed.new W 38 (.func (.yield l) #[] #[])
  obtain ⟨w1, hw1⟩ : ∃ w1, w1 = W.alloc (.cells #[.func (.yield l) #[] #[]] 38) := ⟨_, rfl⟩
  have z1 : w1.heap.size = W.heap.size + 1 := by rw [hw1]; simp
  rw [← hw1] at bO ⊢
  have bA := Boxed.new w1 22 (.slice a len cap)
  obtain ⟨w2, hw2⟩ : ∃ w2, w2 = w1.alloc (.cells #[.slice a len cap] 22) := ⟨_, rfl⟩
  have z2 : w2.heap.size = W.heap.size + 1 + 1 := by rw [hw2]; simp [z1]
  rw [← hw2] at bA ⊢
  have bF := Boxed.new w2 61 (.func (.func 62) #[] #[])
  obtain ⟨w3, hw3⟩ : ∃ w3, w3 = w2.alloc (.cells #[.func (.func 62) #[] #[]] 61) := ⟨_, rfl⟩
  have z3 : w3.heap.size = W.heap.size + 1 + 1 + 1 := by rw [hw3]; simp [z2]
  rw [← hw3] at bF ⊢
  have bO3 : Boxed w3 W.heap.size 38 (.func (.yield l) #[] #[]) := by rw [hw3, hw2]; exact (bO.alloc _).alloc _
  have bA3 : Boxed w3 (W.heap.size + 1) 22 (.slice a len cap) := by rw [hw3, ← z1]; exact bA.alloc _
  have bF3 : Boxed w3 (W.heap.size + 1 + 1) 61 (.func (.func 62) #[] #[]) := by rw [← z2]; exact bF
  have kW : ∀ T, Keep T W w3 := fun T => by rw [hw3, hw2, hw1]; exact ((Keep.alloc T W _).trans (Keep.alloc T _ _)).trans (Keep.alloc T _ _)
  have hb3 : Below W0.heap.size W0 w3 := hbW.trans ((kW (fun _ => True)).below hbW.size (fun _ _ => trivial))
  have hz0 := hbW.size
  clear bO bA bF hw1 hw2 hw3
  refine wpIn_range_iter hro (fun h => by rw [hd] at h; cases h) (gf := 60) (lb := #[.pointer (some ⟨W.heap.size + 1, 0, none⟩), .pointer (some ⟨W.heap.size + 1 + 1, 0, none⟩)]) rfl (hfn _) (enters_of Try.func60 (by kernel_rfl) rfl)
    (pieces_iter F (n - 1) (hfn _) 62 (hfn _) hro (by omega) (W.heap.size + 1) (W.heap.size + 1 + 1) a len cap zs W0 HS.out hlm HN.out Line.isBlank isBlank_enters (fun c W => isBlank_in F _ (hfn _) hro c W) w3 (by omega) (by omega) hb3 bA3.cell bF3.cell)
    (Keep.refl _ _) (by rintro k (h | rfl | rfl) <;> omega) (fun _ => rfl)
    (FieldsAt W0 W l J) (FieldsEnd W0 Jx)
    (by
      rintro pre U X Y ⟨pre', h1, h2, h3, h4, h5⟩ hk
      exact ⟨pre', h1, h2, HJ.out _ _ _ _ h3 (hk.mono fun k _ h => h.elim (fun h => .inl (by omega)) .inr), hk.cell h4 (.inl (by omega)), h5⟩)
    (by
      rintro c pre U X Y ⟨hc, pre', h1, h3⟩ hk
      exact ⟨hc, pre', h1, HJX.out _ _ _ _ h3 (hk.mono fun k _ h => h.elim (fun h => .inl (by omega)) .inr)⟩)
    O (by
      intro k hk
      obtain ⟨h1, h2⟩ := HO.out k hk
      exact ⟨by rintro (h | rfl | rfl); exact h1 (.inl h); omega; omega, by omega⟩)
    ⟨[], rfl, Nat.le_refl _, HJ.out _ _ _ _ H0.out (kW _), bO3.cell, fun h => by have := (HO.out _ h).2; omega⟩
    (fun x => { tmps := #[.func (.yield l) #[] #[], .pointer (some ⟨B, 0, none⟩), .pointer (some ⟨W.heap.size, 0, none⟩), x.1.v, .slice a len cap, .func (.func 60) #[] #[.pointer (some ⟨W.heap.size + 1, 0, none⟩), .pointer (some ⟨W.heap.size + 1 + 1, 0, none⟩)], x.1.v, undef, undef, undef, undef, undef, undef, undef, undef, undef], defers := [] }) ?assign ?body ?done ?stop
  case assign =>
    intro l x W K hK
    gi_wp2
    exact hK
  case body =>
    rintro l2 pre x U X ⟨pre', h1, h2, hJ, hcy, hby⟩ hlt hsz
    have HJ0 := Lib.hid hJ
    clear hJ
    obtain ⟨⟨xa, xn, xc, xz⟩, hx⟩ := x
    have hxs : Sl .u8 W0 xa xn xc xz := hx.1
    dsimp only [Bd.v]
    by_cases h0 : xn = 0
    · have hxz : xz = [] := List.eq_nil_of_length_eq_zero (by rw [hxs.1, h0])
      have h0i : ¬ (0 : Int) < (xn : Int) := by omega
      have hmap : ∀ q : Pc W0, q.1.zs = xz → pre'.map (fun x : Pn W0 => x.1.zs) = ((pre ++ [q]).map (fun x : Pc W0 => x.1.zs)).filter (fun z => z ≠ []) := by
        intro q hq
        rw [List.map_append, List.filter_append, h1]
        simp [hq, hxz]
      have HM := Lib.hid hmap
      clear h1 hxs hmap hxz
      gi_wp2
      exact ⟨U, Keep.refl _ _, fun _ h => .inl h, pre', HM.out _ rfl, by simp; omega, HJ0.out, hcy, hby⟩
    · have h0i : (0 : Int) < (xn : Int) := by omega
      have hne : xz ≠ [] := by intro e; apply h0; rw [← hxs.1, e]; rfl
      obtain ⟨y, hy0⟩ : ∃ y : Pn W0, y.1 = ⟨xa, xn, xc, xz⟩ := ⟨⟨⟨xa, xn, xc, xz⟩, hx, hne⟩, rfl⟩
      obtain ⟨fn, tmps, assign, body, hy, hR⟩ := Yield.anyDepth hd (n - 1 - 1 - 1) (HY.out pre' y U X HJ0.out (by omega))
      have hyv : y.1.v = .slice xa xn xc := by rw [hy0]; rfl
      have hmap : ∀ q : Pc W0, q.1.zs = xz → (pre' ++ [y]).map (fun x : Pn W0 => x.1.zs) = ((pre ++ [q]).map (fun x : Pc W0 => x.1.zs)).filter (fun z => z ≠ []) := by
        intro q hq
        rw [List.map_append, List.map_append, List.filter_append, h1]
        simp [hq, hy0, hne]
      have HM := Lib.hid hmap
      have HR : RoundIn (F.inRound l2) (n - 1 - 1 - 1) Try.prog l fn tmps assign body X (Answers J Jx (pre' ++ [y]) U X) := hR
      rw [hyv] at hy
      clear hyv hy0 hmap hne hxs h1 hR
      gi_wp2
      refine HR.mono ?_
      rintro e X3 ⟨U3, hk3, ho3, (⟨rfl, hJ3⟩ | ⟨rfl, hJx3⟩)⟩
      · have hc3 := hk3.cell hcy hby
        have hu3 : ¬ U3 W.heap.size := fun h => (ho3 _ h).elim hby (by omega)
        have HJ3 := Lib.hid hJ3
        clear hJ3
        gi_wp2
        exact ⟨U3, hk3, ho3, pre' ++ [y], HM.out _ rfl, by simp; omega, HJ3.out, hc3, hu3⟩
      · have HJ3 := Lib.hid hJx3
        clear hJx3
        gi_wp2
        exact ⟨U3, hk3, ho3, rfl, pre' ++ [y], HM.out _ rfl, HJ3.out⟩
  case done =>
    rintro D xs U X hD hUD hys ⟨pre', h1, h2, hJ, hcy, hby⟩ hK
    refine ⟨by simp, .inl ⟨_, _, rfl, run_takeDeferred hK, ?_⟩⟩
    refine ⟨_, results_none rfl _ _ _, ⟨_, rfl⟩, U, .inl ⟨pre', ?_, HJ.out _ _ _ _ hJ (Keep.putObj _ _ _ (by rintro (h | h); omega; exact hUD h))⟩⟩
    rw [h1, hys, fields_parts]
  case stop =>
    rintro D c pre U X hD hUD ⟨k, hk⟩ ⟨rfl, pre', h1, hJ⟩ hK
    gi_wp2
    refine ⟨by simp, .inl ⟨_, _, rfl, run_takeDeferred hK, ?_⟩⟩
    obtain ⟨m, hm⟩ := filter_take (fun z : List Int => decide (z ≠ [])) (partsA Line.isBlank [] zs) k
    refine ⟨_, results_none rfl _ _ _, ⟨_, rfl⟩, U, .inr ⟨pre', ⟨m, ?_⟩, HJX.out _ _ _ _ hJ (Keep.putObj _ _ _ (by rintro (h | h); omega; exact hUD h))⟩⟩
    rw [h1, hk, hm, fields_parts]

end Go.Proofs.Ytflikfnehpaohaa
