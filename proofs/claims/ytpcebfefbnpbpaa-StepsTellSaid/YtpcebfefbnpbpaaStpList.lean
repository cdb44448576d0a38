import Derived.Test.YtpcebfefbnpbpaaStpIter
import Derived.Maps.OwnIn
import Derived.Maps.AppendAt
set_option linter.all false
set_option maxRecDepth 100000
set_option maxHeartbeats 12800000
namespace Go.Proofs.Ytpcebfefbnpbpaa
open Go.RowKit Go.Shelf
attribute [local go_sem] Oper.semAt_some

theorem cells_newp {w : World} {t : TypeId} (cs : List Value) : ∀ j u, cs[j]? = some u → (w.alloc (.cells cs.toArray t)).cell? ((⟨w.heap.size, 0, none⟩ : Addr).add j) = some u := by
  intro j u hj
  have e : (⟨w.heap.size, 0, none⟩ : Addr).add j = ⟨w.heap.size, j, none⟩ := by unfold Addr.add; split <;> simp_all
  rw [e, World.cell?_alloc_mark]
  simpa using hj
theorem own_keepS {S : Nat → Prop} {W W' : World} {base : Nat} {e : TypeId} {size : Nat} {v : Value} {k : Nat} {xs : List Value} (h : W.ownsRow base e size v k xs) (hk : Keep S W W') (hs : ∀ r, v.ownBlock = some r → S r) : W'.ownsRow base e size v k xs := by
  refine ⟨h.1, ?_⟩
  rcases h.2 with hn | ⟨g, cap, cur, rfl, hb, hgg, rest⟩
  · exact .inl hn
  · exact .inr ⟨g, cap, cur, rfl, hb, hk.heap hgg (hs g rfl), rest⟩
/-- what the loop has made of the steps that were told -/
structure OwnS (w : World) (a : Option Addr) (k c : Nat) (pre : List Pw) (U : Nat → Prop) (X : World) : Prop where
  box : Boxed X (w.heap.size + 1) 32 (.slice a k c)
  row : X.ownsRow (w.heap.size + 1 + 1) 37 4 (.slice a k c) k (pcells pre)
  len : pre.length = k
  lies : ∀ x ∈ pre, x.Lies X
  nil : a = none → c = 0
  ubox : U (w.heap.size + 1)
  urow : ∀ r, (Value.slice a k c).ownBlock = some r → U r
  ublk : ∀ x ∈ pre, ∀ b, x.blk = some b → U b
  bel : Below w.heap.size w X
  size : w.heap.size + 1 + 1 ≤ X.heap.size
def OwnSt (w : World) (pre : List Pw) (U : Nat → Prop) (X : World) : Prop := ∃ a k c, OwnS w a k c pre U X
theorem ownSt_stable (w : World) : Stable (w.heap.size + 1 + 1) (OwnSt w) := by
  rintro pre U X Y ⟨a, k, c, h⟩ hk
  exact ⟨a, k, c, hk.boxed h.box (.inr h.ubox), own_keepS h.row hk (fun r e => .inr (h.urow r e)), h.len, fun x hx => (h.lies x hx).block fun b e => hk.block b (by obtain ⟨cs, fr, e2⟩ := (h.lies x hx).blk e; exact lt_of_obj e2) (.inr (h.ublk x hx b e)), h.nil, h.ubox, h.urow, h.ublk,
    h.bel.trans (hk.below h.bel.size (fun k hk => .inl (by omega))), Nat.le_trans h.size hk.size⟩
/-- one step: appended, stored -/
theorem ownS_step {w X W3 : World} {a : Option Addr} {k c : Nat} {pre : List Pw} {U : Nat → Prop} {x : Pw} {g c3 : Nat} {tmp : Obj} (h : OwnS w a k c pre U X) (hx : x.Lies X)
    (ho : W3.ownsRow (w.heap.size + 1 + 1) 37 4 (.slice (some ⟨g, 0, none⟩) (k + 1) c3) (k + 1) (pcells pre ++ x.cells)) (hg : (X.alloc tmp).grownBy W3 (Value.slice a k c).ownBlock)
    (hat : (Value.slice (some ⟨g, 0, none⟩) (k + 1) c3).ownBlock = (Value.slice a k c).ownBlock ∨ (Value.slice (some ⟨g, 0, none⟩) (k + 1) c3).ownBlock = some (X.alloc tmp).heap.size) :
    ∃ U', Keep (fun q => ¬ U q) X (W3.setCell ⟨w.heap.size + 1, 0, none⟩ (.slice (some ⟨g, 0, none⟩) (k + 1) c3)) ∧ (∀ q, U' q → U q ∨ Ow17 x q ∨ X.heap.size ≤ q ∧ q < (W3.setCell ⟨w.heap.size + 1, 0, none⟩ (.slice (some ⟨g, 0, none⟩) (k + 1) c3)).heap.size) ∧ OwnSt w (pre ++ [x]) U' (W3.setCell ⟨w.heap.size + 1, 0, none⟩ (.slice (some ⟨g, 0, none⟩) (k + 1) c3)) := by
  have hX : X.grownBy W3 (Value.slice a k c).ownBlock := (World.grownBy_alloc X tmp _).trans hg
  have hlt : ∀ r, (Value.slice a k c).ownBlock = some r → w.heap.size + 1 + 1 ≤ r := fun r e => (h.row.lt r e).1
  have hbox3 : Boxed W3 (w.heap.size + 1) 32 (.slice a k c) := h.box.kept hX (fun e => by have := hlt _ e.symm; omega)
  have hset := grownBy_setCell' W3 (w.heap.size + 1) (.slice (some ⟨g, 0, none⟩) (k + 1) c3)
  have hint : ∀ r, (Value.slice a k c).ownBlock = some r → ∀ cs fr, X.heap[r]? ≠ some (.cells cs 3 fr) := owned_step h.row
  have hboxu : ∀ r, some (w.heap.size + 1) = some r → ∀ cs fr, W3.heap[r]? ≠ some (.cells cs 3 fr) := by
    intro r e cs fr e2
    cases e
    rw [show W3.heap[w.heap.size + 1]? = _ from hbox3] at e2
    simp at e2
  have hgl := ho.lt g rfl
  have hls : ∀ y : Pw, y.Lies X → y.Lies (W3.setCell ⟨w.heap.size + 1, 0, none⟩ (.slice (some ⟨g, 0, none⟩) (k + 1) c3)) := fun y hy => (hy.grown hX hint).grown hset hboxu
  have hzs : (W3.setCell ⟨w.heap.size + 1, 0, none⟩ (.slice (some ⟨g, 0, none⟩) (k + 1) c3)).heap.size = W3.heap.size := by simp [World.setCell]
  refine ⟨fun q => U q ∨ Ow17 x q ∨ X.heap.size ≤ q ∧ q < W3.heap.size, ?_, fun q hq => by rw [hzs]; exact hq, some ⟨g, 0, none⟩, k + 1, c3, hbox3.set _, ?_, by simp [h.len], fun z hz => ?_, (fun e => by cases e), .inl h.ubox, ?_, ?_, ?_, ?_⟩
  · exact (Keep.of_grownBy hX fun r e hh => hh (h.urow r e)).trans (Keep.setCell _ _ _ (fun hh => hh h.ubox))
  · rw [pcells_app, show pcells [x] = x.cells from by simp [pcells]]
    exact ho.kept hset (.inr fun e => by have e : g = w.heap.size + 1 := (by simpa [Value.ownBlock] using e); omega)
  · rcases List.mem_append.1 hz with hz | hz
    · exact hls z (h.lies z hz)
    · rw [List.mem_singleton.1 hz]; exact hls x hx
  · intro r e
    rcases hat with hat | hat
    · rw [hat] at e; exact .inl (h.urow r e)
    · rw [hat] at e; cases e; right; right
      refine ⟨by simp, ?_⟩
      have e2 : g = (X.alloc tmp).heap.size := by simpa [Value.ownBlock] using hat
      have := hgl.2
      omega
  · intro z hz b e
    rcases List.mem_append.1 hz with hz | hz
    · exact .inl (h.ublk z hz b e)
    · rw [List.mem_singleton.1 hz] at e; exact .inr (.inl e)
  · exact (h.bel.grown hX (by have := h.bel.size; omega) (fun k e => by have := hlt k e; omega)).setCell (p := ⟨w.heap.size + 1, 0, none⟩) (by show w.heap.size ≤ w.heap.size + 1; omega) _
  · rw [hzs]; exact Nat.le_trans h.size hX.size
theorem here_few {c : File.Cst} (hk : File.check c = true) (rest : List Int) : (Stp.here c rest).length ≤ 205 := by
  obtain ⟨-, h2, -, -⟩ := File.check_parts hk
  have := (Stp.here_len c rest).2
  omega
theorem listOf_in (F : Fence) (hF : F = Fence.wide) (n : Nat) (c : Cw) (hk : File.check c.c = true) (qa : Option Addr) (qn qc : Nat) (rest : List Int) (w0 w : World) (hb0 : Below w0.heap.size w0 w) (hc : c.Good w) (hq : Sl .i64 w qa qn qc rest) :
    CallsIn F n Try.prog 19 #[c.v, .slice qa qn qc] w fun e w' => StepsIs w0 w w' e (Stp.here c.c rest) := by
  have hfn : ∀ f, F.fn f := by subst hF; exact fun _ => trivial
  have hro : F.round = none := by subst hF; rfl
  have hd : F.depth = none := by subst hF; rfl
  obtain ⟨i0, hi, hz0, hz1, hz2⟩ := info_parts info_step
  have HFEW := Lib.hid (here_few hk rest)
  obtain ⟨cm, cl, co, ct, ra, rn, rcap, xs⟩ := c
  have HK := Lib.hid hk
  have HC := Lib.hid hc
  have HQ := Lib.hid hq
  have HF := Lib.hid hF
  have HB0 := Lib.hid hb0
  clear hk hc hq hF hb0
  show CallsIn F n _ _ #[.agg #[.int .u64 cm, .int .u64 cl, .int .u64 co, .int .u64 ct, .slice ra rn rcap], .slice qa qn qc] w _
  refine callsIn_of_wp_marks Try.func19 rfl (hfn _) ?_ hro
  simp only [Try.ntmps19, List.size_toArray, List.length_cons, List.length_nil, Nat.reduceAdd, Nat.reduceSub, Array.replicate_succ, Array.replicate_zero, List.push_toArray, List.append_toArray, List.nil_append, List.cons_append]
  gi_wp2_with (gi_at_call 26; refine (stepsOf_in F _ (hfn _) hro ⟨cm, cl, co, ct, ra, rn, rcap, xs⟩ _ _ _ _).mono ?_; rintro e w' ⟨rfl, rfl⟩)
  obtain ⟨w2, hw2⟩ : ∃ W, W = (w.alloc (.cells #[.int .u64 cm, .int .u64 cl, .int .u64 co, .int .u64 ct, .slice ra rn rcap] 25)).alloc (.cells #[.slice none 0 0] 32) := ⟨_, rfl⟩
  have z2 : w2.heap.size = w.heap.size + 1 + 1 := by rw [hw2]; simp
  have hb2 : Below w.heap.size w w2 := by rw [hw2]; exact ((Below.refl _ w).alloc (Nat.le_refl _) _).alloc (by simp) _
  have bO : Boxed w2 (w.heap.size + 1) 32 (.slice none 0 0) := by
    have h := Boxed.new (w.alloc (.cells #[.int .u64 cm, .int .u64 cl, .int .u64 co, .int .u64 ct, .slice ra rn rcap] 25)) 32 (.slice none 0 0)
    rw [World.size_alloc, ← hw2] at h
    exact h
  rw [← hw2]
  clear hw2
  obtain ⟨w4, hw4⟩ : ∃ W, W = (w2.alloc (.cells (Cw.cells ⟨cm, cl, co, ct, ra, rn, rcap, xs⟩) 25)).alloc (.cells #[.slice qa qn qc] 26) := ⟨_, rfl⟩
  have z4 : w4.heap.size = w.heap.size + 1 + 1 + 1 + 1 := by rw [hw4]; simp [z2]
  have hb24 : Below w2.heap.size w2 w4 := by rw [hw4]; exact ((Below.refl _ w2).alloc (Nat.le_refl _) _).alloc (by simp) _
  have hb4 : Below w.heap.size w w4 := hb2.trans (hb24.mono hb2.size)
  have c1 : w4.heap[w.heap.size + 1 + 1]? = some (.cells (Cw.cells ⟨cm, cl, co, ct, ra, rn, rcap, xs⟩) 25 (0, 0)) := by rw [hw4, ← z2]; exact heap_alloc2_old w2 _ _
  have c2 : w4.cell? ⟨w.heap.size + 1 + 1 + 1, 0, none⟩ = some (.slice qa qn qc) := by
    have h := heap_alloc2_new w2 (.cells (Cw.cells ⟨cm, cl, co, ct, ra, rn, rcap, xs⟩) 25) (.cells #[.slice qa qn qc] 26)
    rw [← hw4, z2] at h
    rw [cell_of_row w4 _ _ _ _ _ h]; rfl
  have bO4 : Boxed w4 (w.heap.size + 1) 32 (.slice none 0 0) := (hb24.block _ (by omega)).trans bO
  rw [← hw4]
  clear hw4 bO
  have HSEQ := steps_iter F HF.out (n - 1) ⟨cm, cl, co, ct, ra, rn, rcap, xs⟩ HK.out qa qn qc rest w w4 HC.out HQ.out (w.heap.size + 1 + 1) (w.heap.size + 1 + 1 + 1) (fun k => k < w.heap.size ∨ k = w.heap.size + 1 + 1 ∨ k = w.heap.size + 1 + 1 + 1) (fun k h => .inl h) (.inr (.inl rfl)) (.inr (.inr rfl)) (by rintro k (h | rfl | rfl) <;> omega) hb4 c1 c2
  refine wpIn_range_iterO hro (fun h => by rw [hd] at h; cases h) (gf := 35) (lb := #[.pointer (some ⟨w.heap.size + 1 + 1, 0, none⟩), .pointer (some ⟨w.heap.size + 1 + 1 + 1, 0, none⟩)]) rfl (hfn _) (enters_of Try.func35 (by kernel_rfl) rfl)
    HSEQ (fun x W b r o hx hb => hx.block fun b' e => World.putObj_heap_other (fun e2 => by obtain ⟨cs, fr, h⟩ := hx.blk e; rw [e2, hb] at h; cases h)) (fun x W o hx => hx.below ((Below.refl _ W).alloc (Nat.le_refl _) o)) (fun x W k hx ho => by obtain ⟨cs, fr, h⟩ := hx.blk ho; exact ⟨cs, _, fr, h⟩)
    (Keep.refl _ _) (by rintro k (h | rfl | rfl) <;> omega) (fun _ => rfl)
    (OwnSt w) (fun _ _ _ _ => False) (fun s O W W' h hk => ownSt_stable w s O W W' h (hk.mono fun k _ h => h.imp (fun h => by omega) id)) (fun _ _ _ _ _ h _ => h)
    (fun k => k = w.heap.size + 1) (fun k hk => ⟨by rintro (h | h | h) <;> omega, by omega⟩)
    ⟨none, 0, 0, bO4, World.ownsRow_nil _ _ _ _, rfl, by simp, fun _ => rfl, rfl, by simp [Value.ownBlock], by simp, hb4, by omega⟩
    (fun x bx => { tmps := #[.agg #[.int .u64 cm, .int .u64 cl, .int .u64 co, .int .u64 ct, .slice ra rn rcap], .slice qa qn qc, .pointer (some ⟨w.heap.size, 0, none⟩), undef, .slice none 0 0, .pointer (some ⟨w.heap.size + 1, 0, none⟩), .pointer (some ⟨bx, 0, none⟩), .agg #[.int .u64 cm, .int .u64 cl, .int .u64 co, .int .u64 ct, .slice ra rn rcap], .slice qa qn qc, .func (.func 35) #[] #[.pointer (some ⟨w.heap.size + 1 + 1, 0, none⟩), .pointer (some ⟨w.heap.size + 1 + 1 + 1, 0, none⟩)], x.v, undef, undef, undef, undef, undef], defers := [] }) (fun x => .cells #[.int .i64 x.e, .slice x.a x.n x.cap, .bool x.any, .int .u64 x.c] 37) ?assign ?body ?done ?stop
  case assign =>
    intro l x W K hK
    obtain ⟨e, a, m, cap, p, any, cc⟩ := x
    dsimp only [Pw.v] at hK ⊢
    gi_wp2
    exact hK
  case body =>
    rintro l2 pre ⟨e, a, m, cap, p, any, cc⟩ U X bx hT hx ⟨ra', k, c', h⟩ hlt hsz hbx
    dsimp only [Pw.v] at hbx ⊢
    have hkf : k ≤ 205 := by have := HFEW.out; have := h.len; omega
    have H := Lib.hid h
    have HX := Lib.hid hx
    have hb0 := h.box.cell
    have hbxc : X.cell? ⟨bx, 0, none⟩ = some (.int .i64 e) ∧ X.cell? ⟨bx, 1, none⟩ = some (.slice a m cap) ∧ X.cell? ⟨bx, 2, none⟩ = some (.bool any) ∧ X.cell? ⟨bx, 3, none⟩ = some (.int .u64 cc) := by
      refine ⟨?_, ?_, ?_, ?_⟩ <;> (rw [cell_of_row X _ _ _ _ _ hbx]; rfl)
    obtain ⟨x0, x1, x2, x3⟩ := hbxc
    clear h hx hbx hT
    gi_wp2_with (first
      | (gi_at_builtin; refine wpListIn_append_own_at _ rfl (.tmp 11) (.tmp 13) 32 (by rfl) (w.heap.size + 1 + 1) 37 i0 (.agg #[.int .i64 0, .slice none 0 0, .bool false, .int .u64 0]) 4 48 Try.underlying32 hi hz0 hz1 hz2 rfl (by decide) _ _ _ (by rfl) (H.out.row.alloc _) ⟨X.heap.size, 0, none⟩ 1 1 [.int .i64 e, .slice a m cap, .bool any, .int .u64 cc] (by rfl) rfl (cells_newp _) (by simp [Value.oneCell']) (by unfold maxLen; omega) (by omega) (by have := H.out.size; simp; omega) ?_; intro v' W3 hown' hgrow _ hat; obtain ⟨g', cap', rfl⟩ := ownsRow_succ hown'; have hx3 : Boxed W3 (w.heap.size + 1) 32 (.slice ra' k c') := Boxed.kept (Boxed.alloc H.out.box _) hgrow (fun e => by have := (H.out.row.lt _ e.symm).1; omega); have hc3 := hx3.cell; have hf3 := hx3.frozen))
    exact ownS_step H.out HX.out hown' hgrow hat
  case done =>
    rintro D xs' U X hD hUD hys ⟨ra', k, c', h⟩ hK'
    have hb0 := h.box.cell
    gi_wp2
    refine ⟨by simp, .inl ⟨_, _, rfl, run_takeDeferred hK', ?_⟩⟩
    have kD : Keep U X (X.putObj D (.deferred none)) := Keep.putObj _ _ _ hUD
    have hrow := own_keepS h.row kD h.urow
    have hbD : Below w.heap.size w (X.putObj D (.deferred none)) := h.bel.trans ((Keep.putObj (S := fun k => k < w.heap.size) X D _ (by omega)).below h.bel.size (fun _ h => h))
    refine ⟨_, results_tmp rfl _ _ _, ra', k, c', xs', rfl, ⟨own_mono hrow (by omega), fun x hx => ((h.lies x hx).block fun b e => World.putObj_heap_other (fun e2 => hUD (by rw [← e2]; exact h.ublk x hx b e))).ok, h.len, HB0.out.trans (hbD.mono HB0.out.size)⟩, hys, h.nil, hbD⟩
  case stop =>
    rintro D c pre U X _ _ _ h _
    exact h.elim
theorem listOf_is (c : Cw) (hk : File.check c.c = true) (qa : Option Addr) (qn qc : Nat) (rest : List Int) (w0 w : World) (hb0 : Below w0.heap.size w0 w) (hc : c.Good w) (hq : Sl .i64 w qa qn qc rest) :
    Calls Try.prog 19 #[c.v, .slice qa qn qc] w fun e w' => StepsIs w0 w w' e (Stp.here c.c rest) := callsIn_wide.1 (listOf_in Fence.wide rfl 0 c hk qa qn qc rest w0 w hb0 hc hq)
end Go.Proofs.Ytpcebfefbnpbpaa
