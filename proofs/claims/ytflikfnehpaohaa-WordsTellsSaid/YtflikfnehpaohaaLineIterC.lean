/- What an iterator gives, in memory of its own: the loop that lays each piece anew and collects them. -/
import Derived.Test.YtflikfnehpaohaaGenStr
import Derived.Test.YtflikfnehpaohaaGenHeap
import Derived.Deep.OwnRows
import Derived.Laws.CopyOwn
import Derived.Maps.OwnIn
import Derived.Maps.AppendAt
import Derived.Test.YtflikfnehpaohaaLineIterB
namespace Go.Proofs.Ytflikfnehpaohaa
open Go.RowKit Go.Shelf
attribute [local go_sem] Oper.semAt_some

set_option maxRecDepth 100000 in
/-- copy of a whole row into a new one, inside a fence -/
theorem wpListIn_copy_row {F : Fence} {n : Nat} {P : Program} {w : World} {ops : Array Oper} {rest : List Oper} {o : Oper} {a : Act} {Q : Exit → Act → World → Prop} (hgd : o.guard = none) (d s : Operand) (dT sT : TypeId)
    (ho : o.op = .call { callee := .builtin .copy, args := #[d, s], argTypes := #[dT, sT] }) (elem : TypeId) (hu : P.underlying dT = some (.slice elem)) (hsz : (P.info? elem).map (·.size) = some 1)
    (g m dCap sCap : Nat) (sp : Option Addr) (hd : a.eval d = .slice (some ⟨g, 0, none⟩) m dCap) (hs : a.eval s = .slice sp m sCap)
    (cur : List Value) (t : TypeId) (hg : w.heap[g]? = some (.cells cur.toArray t (0, 0))) (cs : List Value) (hn : cs.length = m) (hcur : cur.length = m)
    (hpos : 0 < m → ∃ ad, sp = some ad ∧ ∀ j v, cs[j]? = some v → w.cell? (ad.add j) = some v) (h1 : ∀ v ∈ cs, v.oneCell' = true) (B : Nat) (w0 : World) (hb : Below B w0 w) (hBg : B ≤ g)
    (h : ∀ w', w'.heap[g]? = some (.cells cs.toArray t (0, 0)) → Below B w0 w' → w.heap.size ≤ w'.heap.size → wpListIn F n P ops Q rest (a.put o.dst (goInt cs.length)) w') :
    wpListIn F n P ops Q (o :: rest) a w := by
  refine wpListIn_plain hgd fun K hK => ?_
  unfold Oper.wpIn
  refine ⟨by simp [Oper.about, ho, resolve, Target.leads, Sem.run_pure], ?_⟩
  rw [Oper.semAt_plain F _ _ (by rw [ho]; intro c hc'; cases hc')]
  by_cases h0 : m = 0
  · subst h0
    obtain rfl : cs = [] := List.eq_nil_of_length_eq_zero hn
    obtain rfl : cur = [] := List.eq_nil_of_length_eq_zero hcur
    have hrun := run_copy_none (P := P) w dT sT o.type elem (some ⟨g, 0, none⟩) sp 0 dCap 0 sCap hu hsz (by simp)
    simp [execOp, ho, resolve, invoke, builtin, hd, hs, hrun, Result.andThen]
    exact hK _ _ (h w hg hb (Nat.le_refl _))
  · obtain ⟨ad, rfl, hsrc⟩ := hpos (by omega)
    have hrun := run_copy_row (P := P) w dT sT o.type elem g 0 m dCap ad m sCap cur.toArray t cs hu hsz hg (by simpa using hn) hsrc (by simp; omega) h1
    simp [execOp, ho, resolve, invoke, builtin, hd, hs, hrun, Result.andThen]
    have h9 : cur.take 0 ++ cs ++ cur.drop (0 + cs.length) = cs := by simp [List.drop_eq_nil_of_le (show cur.length ≤ cs.length by omega)]
    refine hK _ _ (h _ ?_ (below_setRow hb hBg _) (by simp [World.setRow]))
    have h8 := setRow_heap w g cur.toArray cs.toArray t _ hg
    simpa [List.drop_eq_nil_of_le (show cur.length ≤ cs.length by omega)] using h8

/-- a row of bytes in a block of its own -/
def Bd.In (W : World) (x : Bd) : Prop :=
  ∃ b, x.a = some ⟨b, 0, none⟩ ∧ x.cap = x.n ∧ x.zs.length = x.n ∧ x.n ≤ maxLen ∧ (∀ z ∈ x.zs, (Lit.int .u8 z).wf = true) ∧ W.heap[b]? = some (.cells (x.zs.map (Value.int .u8)).toArray 5 (0, 0))
set_option maxRecDepth 100000 in
theorem Bd.In.good {W : World} {x : Bd} (h : x.In W) : x.Good W := by
  obtain ⟨b, h1, h2, h3, h4, h5, h6⟩ := h
  unfold Bd.Good
  rw [h1, h2]
  exact Sl.of_heap h6 h5 h3 h4
set_option maxRecDepth 100000 in
theorem Bd.In.kept {W W' : World} {x : Bd} {row : Option Nat} (h : x.In W) (hg : W.grownBy W' row) (hr : ∀ r, row = some r → ∀ cs fr, W.heap[r]? ≠ some (.cells cs 5 fr)) : x.In W' := by
  obtain ⟨b, h1, h2, h3, h4, h5, h6⟩ := h
  exact ⟨b, h1, h2, h3, h4, h5, (hg.block b (Array.getElem?_eq_some_iff.1 h6).1 (fun e => hr b e.symm _ _ h6)).trans h6⟩
set_option maxRecDepth 100000 in
theorem own_or (v : Value) : v.ownBlock = none ∨ v.ownBlock ≠ (none : Option Nat) := by
  cases v.ownBlock with
  | none => exact .inl rfl
  | some q => exact .inr (by simp)
set_option maxRecDepth 100000 in
theorem Boxed.below {W W' : World} {B : Nat} {t : TypeId} {v : Value} (h : Boxed W B t v) (hb : Below W.heap.size W W') : Boxed W' B t v := (hb.block B (Boxed.lt h)).trans h
set_option maxRecDepth 100000 in
theorem owned_not_u8 {W : World} {B : Nat} {v : Value} {k : Nat} {xs : List Value} (h : W.ownsRow B 22 1 v k xs) : ∀ r, v.ownBlock = some r → ∀ cs fr, W.heap[r]? ≠ some (.cells cs 5 fr) := by
  intro r e cs fr e2
  rcases h.2 with ⟨e1, _⟩ | ⟨g, cap, cur, e1, _, hgb, _⟩
  · rw [e1] at e; simp [Value.ownBlock] at e
  · rw [e1] at e
    obtain rfl : g = r := by simpa [Value.ownBlock] using e
    rw [hgb] at e2
    simp at e2

set_option maxRecDepth 100000 in
theorem Below.grownBy {W W' : World} (h : Below W.heap.size W W') : W.grownBy W' none := ⟨h.os, h.tape, h.output, h.size, fun k hk _ => h.block k hk⟩
set_option maxRecDepth 100000 in
theorem info_brow : (Try.prog.info? 22).map (fun i => (i.zero, i.size, i.bytes)) = some (some (.slice none 0 0), 1, 24) := by kernel_rfl

set_option maxRecDepth 100000 in
theorem Bd.In.keep {S : Nat → Prop} {W W' : World} {x : Bd} (h : x.In W) (hk : Keep S W W') (hs : ∀ b, x.a = some ⟨b, 0, none⟩ → S b) : x.In W' := by
  obtain ⟨b, h1, h2, h3, h4, h5, h6⟩ := h
  exact ⟨b, h1, h2, h3, h4, h5, hk.heap h6 (hs b h1)⟩
set_option maxRecDepth 100000 in
theorem ownsRow_keep {S : Nat → Prop} {W W' : World} {base : Nat} {e : TypeId} {size : Nat} {v : Value} {k : Nat} {xs : List Value} (h : W.ownsRow base e size v k xs) (hk : Keep S W W') (hs : ∀ r, v.ownBlock = some r → S r) : W'.ownsRow base e size v k xs := by
  refine ⟨h.1, ?_⟩
  rcases h.2 with hn | ⟨g, cap, cur, rfl, hb, hgg, rest⟩
  · exact .inl hn
  · exact .inr ⟨g, cap, cur, rfl, hb, hk.heap hgg (hs g rfl), rest⟩

/-- what the loop has made of the pieces that have come -/
def OwnAt {α : Type} (w : World) (bd : α → Bd) (pre : List α) (U : Nat → Prop) (X : World) : Prop :=
  ∃ (a' : Option Addr) (L c' : Nat) (outs : List Bd), Boxed X w.heap.size 36 (.slice a' L c') ∧ X.ownsRow (w.heap.size + 1) 22 1 (.slice a' L c') L (bvals outs) ∧ outs.length = L ∧ L = pre.length ∧
    (∀ x ∈ outs, x.In X) ∧ bnums outs = pre.map (fun x => (bd x).zs) ∧ (a' = none → c' = 0) ∧ U w.heap.size ∧ (∀ r, (Value.slice a' L c').ownBlock = some r → U r) ∧ (∀ x ∈ outs, ∀ b, x.a = some ⟨b, 0, none⟩ → U b) ∧ Below w.heap.size w X ∧ w.heap.size + 1 ≤ X.heap.size

set_option maxRecDepth 100000 in
theorem ownAt_stable {α : Type} (w : World) (bd : α → Bd) : Stable (w.heap.size + 1) (OwnAt w bd) := by
  rintro pre U X Y ⟨a', L, c', outs, h1, h2, h3, h4, h5, h6, h7, h8, h9, h10, h11, h12⟩ hk
  exact ⟨a', L, c', outs, hk.boxed h1 (.inr h8), ownsRow_keep h2 hk (fun r e => .inr (h9 r e)), h3, h4, fun x hx => (h5 x hx).keep hk (fun b e => .inr (h10 x hx b e)), h6, h7, h8, h9, h10,
    h11.trans (hk.below (by omega) (fun k hk => .inl (by omega))), Nat.le_trans h12 hk.size⟩

set_option maxRecDepth 100000 in
/-- one piece: laid anew, appended, stored -/
theorem ownAt_step {α : Type} {w X W2 W3 : World} {bd : α → Bd} {pre : List α} {x : α} {U : Nat → Prop} {a' : Option Addr} {L c' : Nat} {outs : List Bd}
    (h1 : Boxed X w.heap.size 36 (.slice a' L c')) (h2 : X.ownsRow (w.heap.size + 1) 22 1 (.slice a' L c') L (bvals outs)) (h3 : outs.length = L) (h4 : L = pre.length)
    (h5 : ∀ x ∈ outs, x.In X) (h6 : bnums outs = pre.map (fun x => (bd x).zs)) (h8 : U w.heap.size) (h9 : ∀ r, (Value.slice a' L c').ownBlock = some r → U r) (h10 : ∀ x ∈ outs, ∀ b, x.a = some ⟨b, 0, none⟩ → U b) (h11 : Below w.heap.size w X) (h12 : w.heap.size + 1 ≤ X.heap.size)
    (hb2 : Below X.heap.size X W2) (y : Bd) (hy : y.In W2) (hya : y.a = some ⟨X.heap.size, 0, none⟩) (hyz : y.zs = (bd x).zs) {tmp : Obj} {g c3 : Nat}
    (ho : W3.ownsRow (w.heap.size + 1) 22 1 (.slice (some ⟨g, 0, none⟩) (L + 1) c3) (L + 1) (bvals outs ++ [y.v])) (hg : (W2.alloc tmp).grownBy W3 (Value.slice a' L c').ownBlock)
    (hat : (Value.slice (some ⟨g, 0, none⟩) (L + 1) c3).ownBlock = (Value.slice a' L c').ownBlock ∨ (Value.slice (some ⟨g, 0, none⟩) (L + 1) c3).ownBlock = some (W2.alloc tmp).heap.size) :
    ∃ U', Keep (fun k => ¬ U k) X (W3.setCell ⟨w.heap.size, 0, none⟩ (.slice (some ⟨g, 0, none⟩) (L + 1) c3)) ∧ (∀ k, U' k → U k ∨ X.heap.size ≤ k) ∧ OwnAt w bd (pre ++ [x]) U' (W3.setCell ⟨w.heap.size, 0, none⟩ (.slice (some ⟨g, 0, none⟩) (L + 1) c3)) := by
  have hgb : W2.grownBy W3 (Value.slice a' L c').ownBlock := (World.grownBy_alloc W2 tmp _).trans hg
  have hX : X.grownBy W3 (Value.slice a' L c').ownBlock := ⟨hgb.os.trans hb2.os, hgb.tape.trans hb2.tape, hgb.output.trans hb2.output, Nat.le_trans hb2.size hgb.size, fun k hk hne => (hgb.block k (Nat.lt_of_lt_of_le hk hb2.size) hne).trans (hb2.block k hk)⟩
  have hlt : ∀ r, (Value.slice a' L c').ownBlock = some r → w.heap.size + 1 ≤ r := fun r e => (h2.lt r e).1
  have hbox3 : Boxed W3 w.heap.size 36 (.slice a' L c') := h1.kept hX (fun e => by have := hlt _ e.symm; omega)
  have hset := grownBy_setCell' W3 w.heap.size (.slice (some ⟨g, 0, none⟩) (L + 1) c3)
  have hboxu : ∀ r, some w.heap.size = some r → ∀ cs fr, W3.heap[r]? ≠ some (.cells cs 5 fr) := by
    intro r e cs fr e2
    cases e
    rw [show W3.heap[w.heap.size]? = _ from hbox3] at e2
    simp at e2
  have hrow2 : W2.ownsRow (w.heap.size + 1) 22 1 (.slice a' L c') L (bvals outs) := h2.kept (Below.grownBy hb2) (by cases hq : (Value.slice a' L c').ownBlock with | none => exact .inl rfl | some q => exact .inr (by simp))
  have hgl := (ho.lt g rfl).1
  refine ⟨fun k => U k ∨ X.heap.size ≤ k, ?_, fun k h => h, some ⟨g, 0, none⟩, L + 1, c3, outs ++ [y], hbox3.set _, ?_, by simp [h3], by simp [h4], fun z hz => ?_, ?_, (fun h => by cases h), .inl h8, ?_, ?_, ?_, ?_⟩
  · exact (Keep.of_grownBy hX fun r e h => h (h9 r e)).trans (Keep.setCell _ _ _ (fun h => h h8))
  · rw [bvals_app]
    exact ho.kept hset (.inr fun e => by have h : g = w.heap.size := (by simpa [Value.ownBlock] using e); omega)
  · rcases List.mem_append.1 hz with hz | hz
    · exact ((h5 z hz).kept hX (owned_not_u8 h2)).kept hset hboxu
    · rw [List.mem_singleton.1 hz]
      exact (hy.kept hgb (owned_not_u8 hrow2)).kept hset hboxu
  · rw [bnums_app, h6]
    simp [bnums, hyz]
  · intro r e
    rcases hat with hat | hat
    · rw [hat] at e; exact .inl (h9 r e)
    · rw [hat] at e; cases e; right; have := hb2.size; simp; omega
  · intro z hz b e
    rcases List.mem_append.1 hz with hz | hz
    · exact .inl (h10 z hz b e)
    · rw [List.mem_singleton.1 hz, hya] at e; cases e; exact .inr (Nat.le_refl _)
  · exact (h11.grown hX (by omega) (fun k e => by have := hlt k e; omega)).setCell (p := ⟨w.heap.size, 0, none⟩) (Nat.le_refl _) _
  · exact Nat.le_trans h12 (Nat.le_trans hX.size hset.size)


/-- rows that a call answers, each in a block of its own -/
def RowsOwn (w w' : World) (e : Ending) (l : List (List Int)) : Prop :=
  ∃ a' m c' ys, e = .returned (.slice a' m c') ∧ Bs w' a' m c' ys ∧ bnums ys = l ∧ (a' = none → c' = 0) ∧ Below w.heap.size w w' ∧ ∀ y ∈ ys, ∃ b, y.a = some ⟨b, 0, none⟩
set_option maxRecDepth 100000 in
theorem RowsOwn.is {w w' : World} {e : Ending} {l : List (List Int)} (h : RowsOwn w w' e l) : RowsIs w w' e l := by
  obtain ⟨a', m, c', ys, h1, h2, h3, h4, h5, _⟩ := h
  exact ⟨a', m, c', ys, h1, h2, h3, h4, h5⟩
set_option maxRecDepth 100000 in
set_option maxHeartbeats 4000000 in
theorem own_in {α : Type} (F : Fence) (n : Nat) (hfn : ∀ f, F.fn f) (hd : F.depth = none) (hro : F.round = none) (W0 w : World) (hb : Below W0.heap.size W0 w) (bd : α → Bd) (hbd : ∀ x, (bd x).Good W0 ∧ (bd x).n ≤ 1000000)
    (gf : Nat) (lb : Array Value) (eg : ∀ args W, (callFunc gf args).run Try.prog W = .ok (.enter gf args) W) (Rd : Nat → Prop) (hRd : ∀ k, Rd k → k < w.heap.size) (l : List (List Int)) (Sp : List α → Prop) (N : Nat) (hN : N ≤ 2000000)
    (hseq : Iter F (n - 1) Try.prog gf lb (fun x => #[(bd x).v]) Rd (fun ys => ys.map (fun x => (bd x).zs) = l) Sp N w) :
    CallsIn F n Try.prog 41 #[.func (.func gf) #[] lb] w fun e w' => RowsOwn w w' e l := by
  obtain ⟨i0, hi, hz0, hz1, hz2⟩ := info_parts info_brow
  refine callsIn_of_wp_marks Try.func41 rfl (hfn _) ?_ hro
  simp only [Try.ntmps41, List.size_toArray, List.length_cons, List.length_nil, Nat.reduceAdd, Nat.reduceSub, Array.replicate_succ, Array.replicate_zero, List.push_toArray, List.append_toArray, List.nil_append, List.cons_append]
  gi_wp2
  have bO := Boxed.new w 36 (.slice none 0 0)
  obtain ⟨w1, hw1⟩ : ∃ w1, w1 = w.alloc (.cells #[.slice none 0 0] 36) := ⟨_, rfl⟩
  have z1 : w1.heap.size = w.heap.size + 1 := by rw [hw1]; simp
  have k1 : ∀ T, Keep T w w1 := fun T => by rw [hw1]; exact Keep.alloc T w _
  rw [← hw1] at bO ⊢
  refine wpIn_range_iter hro (fun h => by rw [hd] at h; cases h) (gf := gf) (lb := lb) rfl (hfn _) eg hseq (k1 _) hRd (fun _ => rfl)
    (OwnAt w bd) (fun _ _ _ _ => False) (by rw [z1]; exact ownAt_stable w bd) (fun _ _ _ _ _ h _ => h)
    (fun k => k = w.heap.size) (fun k hk => ⟨fun h => by have := hRd k h; omega, by omega⟩)
    ⟨none, 0, 0, [], bO, World.ownsRow_nil _ _ _ _, rfl, rfl, by simp, rfl, fun _ => rfl, rfl, by simp [Value.ownBlock], by simp, (k1 (fun _ => True)).below (Nat.le_refl _) (fun _ _ => trivial), by omega⟩
    (fun x => { tmps := #[.func (.func gf) #[] lb, undef, .slice none 0 0, .pointer (some ⟨w.heap.size, 0, none⟩), (bd x).v, undef, .func (.func gf) #[] lb, (bd x).v, undef, undef, undef, undef, undef, undef, undef, undef, undef, undef, undef], defers := [] }) ?assign ?body ?done ?stop
  case assign =>
    intro l x W K hK
    gi_wp2
    exact hK
  case body =>
    rintro l2 pre x U X ⟨a', L, c', outs, h1, h2, h3, h4, h5, h6, h7, h8, h9, h10, h11, h12⟩ hlt hsz
    obtain ⟨hx1, hx2⟩ := hbd x
    obtain ⟨⟨xa, xn, xc, xz⟩, hxe⟩ : ∃ q, q = bd x := ⟨_, rfl⟩
    rw [← hxe] at hx1 hx2
    have hxs : Sl .u8 W0 xa xn xc xz := hx1
    have hxm : xn ≤ 1000000 := hx2
    have hxX : Sl .u8 X xa xn xc xz := hxs.below (hb.trans (h11.mono hb.size)) (Nat.le_refl _)
    have hmk := run_make_row' (P := Try.prog) 22 5 (.int .u8 0) 1 Try.underlying22 info_u8 rfl .i64 .i64 xn (by omega) (by omega)
    obtain ⟨C, hC⟩ : ∃ C, C = xz.map (Value.int .u8) := ⟨_, rfl⟩
    have hCl : C.length = xn := by rw [hC, List.length_map, hxs.1]
    have hpos : 0 < xn → ∃ ad, xa = some ad ∧ ∀ j v, C[j]? = some v → ∀ o, (X.alloc o).cell? (ad.add j) = some v := by
      intro h0
      obtain ⟨b, off, rfl, hb5, hc5⟩ := hxX.at (by omega)
      refine ⟨_, rfl, fun j v hv o => ?_⟩
      have hj : j < xz.length := by
        rcases Nat.lt_or_ge j xz.length with h | h
        · exact h
        · rw [hC] at hv; simp [List.getElem?_eq_none h] at hv
      have := hc5 j (by rw [← hxs.1]; exact hj)
      rw [show (⟨b, off, none⟩ : Addr).add j = ⟨b, off + j, none⟩ from by simp [Addr.add], World.cell?_alloc_old _ _ _ (by show b ≠ X.heap.size; omega), this]
      rw [hC] at hv
      simp [hj] at hv
      rw [← hv]; simp [hj]
    have hone : ∀ v ∈ C, v.oneCell' = true := by rw [hC]; exact ints_oneCell .u8 xz
    have hg : ∀ c : Array Value, (X.alloc (.cells c 5)).heap[X.heap.size]? = some (.cells c.toList.toArray 5 (0, 0)) := fun c => by unfold World.alloc; simp
    have hstep : ∀ W2, W2.heap[X.heap.size]? = some (.cells C.toArray 5 (0, 0)) → Below X.heap.size X W2 → (⟨some ⟨X.heap.size, 0, none⟩, xn, xn, xz⟩ : Bd).In W2 := fun W2 hW _ =>
      ⟨X.heap.size, rfl, rfl, hxs.1, by unfold maxLen; show xn ≤ _; omega, hxs.2.2.2.1, by rw [hW, hC]⟩
    have HXE := Lib.hid hxe
    have HCL := Lib.hid hCl
    have HP := Lib.hid hpos
    have H1 := Lib.hid h1
    have H2 := Lib.hid h2
    have H4 := Lib.hid h4
    have H5 := Lib.hid h5
    have H6 := Lib.hid h6
    have H9 := Lib.hid h9
    have H10 := Lib.hid h10
    have HON := Lib.hid hone
    have HG := Lib.hid hg
    have HIN := Lib.hid hstep
    have hL : L ≤ 2000000 := by omega
    have hax : (bd x).v = .slice xa xn xc := by rw [← hxe]; rfl
    rw [hax]
    clear hax hxe hx1 hx2 hC hCl hpos h1 h2 h4 h5 h6 h9 h10 hone hg hstep hxX hxs
    gi_wp2_with (first
      | (refine wpListIn_copy_row (o := ⟨some 13, _, _, _, _, _⟩) rfl (.tmp 11) (.tmp 12) 22 22 (by rfl) 5 Try.underlying22 size_u8 X.heap.size xn _ _ _ (by rfl) (by rfl) (madeCells #[.int .u8 0] xn).toList 5 (HG.out _) C HCL.out (by simp [madeCells]) (fun h0 => by obtain ⟨ad, e, h'⟩ := HP.out h0; exact ⟨ad, e, fun j v hv => h' j v hv _⟩) HON.out X.heap.size X ((Below.refl _ X).alloc (Nat.le_refl _) _) (Nat.le_refl _) ?_; intro W2 hW2 hb2 _; have HW2 := Lib.hid hW2; clear hW2; have hx2 := Boxed.below H1.out hb2; have hc2 := hx2.cell; have HO2 := Lib.hid (H2.out.kept (Below.grownBy hb2) (own_or _)))
      | (gi_at_builtin; refine wpListIn_append_own_at _ rfl (.tmp 14) (.tmp 16) 36 (by rfl) (w.heap.size + 1) 22 i0 (.slice none 0 0) 1 24 Try.underlying36 hi hz0 hz1 hz2 rfl (by decide) _ _ _ (by rfl) (HO2.out.alloc _) ⟨W2.heap.size, 0, none⟩ 1 1 [.slice (some ⟨X.heap.size, 0, none⟩) xn xn] (by rfl) rfl (cell_one_new _ _ _) (by simp [Value.oneCell']) (by unfold maxLen; omega) (by omega) (by have := hb2.size; simp; omega) ?_; intro v' W3 hown' hgrow _ hat; obtain ⟨g', cap', rfl⟩ := ownsRow_succ hown'; have hx3 : Boxed W3 w.heap.size 36 (.slice a' L c') := Boxed.kept (Boxed.alloc hx2 _) hgrow (fun e => by have := (HO2.out.lt _ e.symm).1; omega); have hc3 := hx3.cell; have hf3 := hx3.frozen))
    exact ownAt_step H1.out H2.out h3 H4.out H5.out H6.out h8 H9.out H10.out h11 h12 hb2 ⟨some ⟨X.heap.size, 0, none⟩, xn, xn, xz⟩ (HIN.out _ HW2.out hb2) rfl (by rw [← HXE.out]) hown' hgrow hat
  case done =>
    rintro D xs U X hD hUD hys ⟨a', L, c', outs, h1, h2, h3, h4, h5, h6, h7, h8, h9, h10, h11, h12⟩ hK
    have hc := h1.cell
    clear h4
    gi_wp2
    refine ⟨by simp, .inl ⟨_, _, rfl, run_takeDeferred hK, ?_⟩⟩
    have kD : Keep U X (X.putObj D (.deferred none)) := Keep.putObj _ _ _ hUD
    have h2' := ownsRow_keep h2 kD h9
    have hbD : Below w.heap.size w (X.putObj D (.deferred none)) := h11.trans ((Keep.putObj (S := fun k => k < w.heap.size) X D _ (by omega)).below h11.size (fun _ h => h))
    refine ⟨_, results_tmp rfl _ _ _, a', L, c', outs, rfl, Bs.of_owns h2' (fun x hx => ((h5 x hx).keep kD (h10 x hx)).good) h3, by rw [h6, hys], h7, hbD, fun y hy => by obtain ⟨b, h, _⟩ := h5 y hy; exact ⟨b, h⟩⟩
  case stop =>
    rintro D c pre U X _ _ _ h _
    exact h.elim

end Go.Proofs.Ytflikfnehpaohaa
