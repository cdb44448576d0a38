import Derived.RangeFuncNested
import Derived.RangeFuncBound
import Derived.RangeFuncCalls
import Derived.RangeFuncLeaves
import Derived.Test.YtpcebfefbnpbpaaPackB
set_option linter.all false
set_option maxRecDepth 100000
set_option maxHeartbeats 12800000
namespace Go.Proofs.Ytpcebfefbnpbpaa
section
open Go.RowKit

/-- the blocks that S names lie as they lay -/
structure Keep (S : Nat → Prop) (W W' : World) : Prop where
  os : W'.os = W.os
  tape : W'.tape = W.tape
  output : W'.output = W.output
  size : W.heap.size ≤ W'.heap.size
  block : ∀ k, k < W.heap.size → S k → W'.heap[k]? = W.heap[k]?

theorem Keep.refl (S : Nat → Prop) (W : World) : Keep S W W := ⟨rfl, rfl, rfl, Nat.le_refl _, fun _ _ _ => rfl⟩
theorem Keep.mono {S T : Nat → Prop} {W W' : World} (h : Keep S W W') (hs : ∀ k, k < W.heap.size → T k → S k) : Keep T W W' :=
  ⟨h.os, h.tape, h.output, h.size, fun k hk ht => h.block k hk (hs k hk ht)⟩
theorem Keep.trans {S : Nat → Prop} {A B C : World} (h : Keep S A B) (h' : Keep S B C) : Keep S A C :=
  ⟨h'.os.trans h.os, h'.tape.trans h.tape, h'.output.trans h.output, Nat.le_trans h.size h'.size, fun k hk hs =>
    (h'.block k (Nat.lt_of_lt_of_le hk h.size) hs).trans (h.block k hk hs)⟩
theorem Keep.trans' {S T U : Nat → Prop} {A B C : World} (h : Keep S A B) (h' : Keep T B C) (hs : ∀ k, k < A.heap.size → U k → S k ∧ T k) : Keep U A C :=
  ⟨h'.os.trans h.os, h'.tape.trans h.tape, h'.output.trans h.output, Nat.le_trans h.size h'.size, fun k hk hu => (h'.block k (Nat.lt_of_lt_of_le hk h.size) (hs k hk hu).2).trans (h.block k hk (hs k hk hu).1)⟩
theorem Keep.of_below {B : Nat} {W W' : World} (h : Below B W W') : Keep (fun k => k < B) W W' := ⟨h.os, h.tape, h.output, h.size, fun k _ hk => h.block k hk⟩
theorem Keep.below {S : Nat → Prop} {B : Nat} {W W' : World} (h : Keep S W W') (hB : B ≤ W.heap.size) (hs : ∀ k, k < B → S k) : Below B W W' :=
  ⟨h.os, h.tape, h.output, h.size, fun k hk => h.block k (by omega) (hs k hk)⟩
theorem Keep.alloc (S : Nat → Prop) (W : World) (o : Obj) : Keep S W (W.alloc o) := ⟨rfl, rfl, rfl, by simp, fun k hk _ => Below.heap_alloc _ _ _ hk⟩
theorem Keep.drew (S : Nat → Prop) (W : World) : Keep S W W.drew := ⟨rfl, rfl, rfl, Nat.le_refl _, fun _ _ _ => rfl⟩
theorem Keep.setCell {S : Nat → Prop} (W : World) (a : Addr) (v : Value) (h : ¬ S a.block) : Keep S W (W.setCell a v) :=
  ⟨rfl, rfl, rfl, by simp [World.setCell], fun k _ hs => Below.heap_setCell _ _ _ _ (fun e => h (e ▸ hs))⟩
theorem Keep.putObj {S : Nat → Prop} (W : World) (l : Nat) (o : Obj) (h : ¬ S l) : Keep S W (W.putObj l o) :=
  ⟨rfl, rfl, rfl, by simp, fun k _ hs => World.putObj_heap_other (fun e => h (e ▸ hs))⟩
theorem Keep.of_grownBy {S : Nat → Prop} {W W' : World} {row : Option Nat} (h : W.grownBy W' row) (hr : ∀ r, row = some r → ¬ S r) : Keep S W W' :=
  ⟨h.os, h.tape, h.output, h.size, fun k hk hs => h.block k hk (fun e => hr k e.symm hs)⟩
theorem Keep.heap {S : Nat → Prop} {W W' : World} (h : Keep S W W') {k : Nat} {o : Obj} (hk : W.heap[k]? = some o) (hs : S k) : W'.heap[k]? = some o :=
  (h.block k (Array.getElem?_eq_some_iff.1 hk).1 hs).trans hk
theorem Keep.cell {S : Nat → Prop} {W W' : World} (h : Keep S W W') {b o : Nat} {v : Value} (hp : W.cell? ⟨b, o, none⟩ = some v) (hs : S b) : W'.cell? ⟨b, o, none⟩ = some v :=
  (World.cell?_of_block (w := W) (h.block b (cell_lt hp) hs)).trans hp
theorem Keep.frozen {S : Nat → Prop} {W W' : World} (h : Keep S W W') {p : Addr} (hp : p.block < W.heap.size) (hs : S p.block) : W'.frozen? p = W.frozen? p := World.frozen?_of_block (w := W) (h.block p.block hp hs)
theorem Keep.boxed {S : Nat → Prop} {W W' : World} (h : Keep S W W') {B : Nat} {t : TypeId} {v : Value} (hb : Boxed W B t v) (hs : S B) : Boxed W' B t v := h.heap hb hs

/-- J hangs on no block but those below B and those of its own set -/
def Stable {β : Type} (B : Nat) (J : β → (Nat → Prop) → World → Prop) : Prop :=
  ∀ s O W W', J s O W → Keep (fun k => k < B ∨ O k) W W' → J s O W'

/-- how a round answers: what lay and is not in its set lies as it lay, its set has grown by new blocks alone -/
def Answers {α : Type} (J Jx : List α → (Nat → Prop) → World → Prop) (xs : List α) (O : Nat → Prop) (W : World) (e : Ending) (W' : World) : Prop :=
  ∃ O', Keep (fun k => ¬ O k) W W' ∧ (∀ k, O' k → O k ∨ W.heap.size ≤ k) ∧
    ((e = .returned (.bool true) ∧ J xs O' W') ∨ (e = .returned (.bool false) ∧ Jx xs O' W'))

/-- what a function value that may be ranged over gives: all of an S, or what an Sp says where a round has said 'no more'; Rd: the blocks that it reads -/
def Iter {α : Type} (F : Fence) (n : Nat) (P : Program) (g : Nat) (lb : Array Value) (encs : α → Array Value) (Rd : Nat → Prop) (S Sp : List α → Prop) (N : Nat) (w : World) : Prop :=
  ∀ (l : Nat) (J Jx : List α → (Nat → Prop) → World → Prop) (O : Nat → Prop) (W : World), Keep Rd w W → (∀ k, O k → ¬ Rd k ∧ k < W.heap.size) → Stable W.heap.size J → Stable W.heap.size Jx →
    (∀ pre x O W1, J pre O W1 → pre.length < N → YieldAt F (n - 1) P l (encs x) W1 (Answers J Jx (pre ++ [x]) O W1)) →
    J [] O W →
    CallsIn F n P g (#[.func (.yield l) #[] #[]] ++ lb) W fun e W' => (∃ v, e = .returned v) ∧ ∃ O', (∃ xs, S xs ∧ J xs O' W') ∨ (∃ pre, Sp pre ∧ Jx pre O' W')

theorem Iter.anyDepth {α : Type} {F : Fence} (hd : F.depth = none) {n : Nat} (m : Nat) {P : Program} {g : Nat} {lb : Array Value} {encs : α → Array Value} {Rd : Nat → Prop} {S Sp : List α → Prop} {N : Nat} {w : World}
    (h : Iter F n P g lb encs Rd S Sp N w) : Iter F m P g lb encs Rd S Sp N w := by
  have hroom : ∀ k, F.room k := fun k d e => by rw [hd] at e; cases e
  intro l J Jx O W hW hO hJ hJx hY h0
  obtain ⟨h1, h2⟩ := h l J Jx O W hW hO hJ hJx (fun pre x O W1 hj hl => by
    obtain ⟨fn, tmps, assign, body, hy, hR⟩ := hY pre x O W1 hj hl
    exact ⟨fn, tmps, assign, body, hy, hR.1, fun c cs _ => hR.2 c cs (hroom _)⟩) h0
  exact ⟨h1, fun cs _ => h2 cs (hroom _)⟩
theorem Yield.anyDepth {F : Fence} (hd : F.depth = none) {m : Nat} (m' : Nat) {P : Program} {l : Nat} {args : Array Value} {W : World} {R : Ending → World → Prop} (h : YieldAt F m P l args W R) : YieldAt F m' P l args W R := by
  obtain ⟨fn, tmps, assign, body, hy, hR⟩ := h
  exact ⟨fn, tmps, assign, body, hy, hR.1, fun c cs _ => hR.2 c cs (fun d e => by rw [hd] at e; cases e)⟩

/-- how the body of a round may be left -/
def roundEnds {α : Type} (I : List α → (Nat → Prop) → World → Prop) (Ix : Code → List α → (Nat → Prop) → World → Prop) (xs : List α) (O : Nat → Prop) (W : World) : Exit → Act → World → Prop
  | .normal, _, W' => ∃ O', Keep (fun k => ¬ O k) W W' ∧ (∀ k, O' k → O k ∨ W.heap.size ≤ k) ∧ I xs O' W'
  | .ret, _, W' => ∃ O', Keep (fun k => ¬ O k) W W' ∧ (∀ k, O' k → O k ∨ W.heap.size ≤ k) ∧ Ix .ret xs O' W'
  | .exit id, _, W' => ∃ O', Keep (fun k => ¬ O k) W W' ∧ (∀ k, O' k → O k ∨ W.heap.size ≤ k) ∧ Ix (.exit id) xs O' W'
  | .goto t, _, W' => ∃ O', Keep (fun k => ¬ O k) W W' ∧ (∀ k, O' k → O k ∨ W.heap.size ≤ k) ∧ Ix (.goto t) xs O' W'
  | .panic _, _, _ => False
  | .outgrown, _, _ => False

/-- a loop over a function value, in a plain frame -/
theorem wpIn_range_iter {F : Fence} {n : Nat} {P : Program} {α : Type} {g : Operand} {ps : Array Tmp} {assign body : Code} {Q : Exit → Act → World → Prop} {a : Act} {w : World}
    (hro : F.round = none) (h1 : F.depth.isSome = true → 1 ≤ n) {gf : Nat} {lb : Array Value} (hg : a.eval g = .func (.func gf) #[] lb) (hFg : F.fn gf) (eg : ∀ args w, (callFunc gf args).run P w = .ok (.enter gf args) w)
    {encs : α → Array Value} {Rd : Nat → Prop} {S Sp : List α → Prop} {N : Nat} {w0 : World} (hseq : Iter F (n - 1) P gf lb encs Rd S Sp N w0) (hw0 : Keep Rd w0 w) (hRd : ∀ k, Rd k → k < w0.heap.size) (hps : ∀ x, (encs x).size = ps.size)
    (I : List α → (Nat → Prop) → World → Prop) (Ix : Code → List α → (Nat → Prop) → World → Prop) (hI : Stable w.heap.size I) (hIx : ∀ c, Stable w.heap.size (Ix c))
    (O : Nat → Prop) (hO : ∀ k, O k → ¬ Rd k ∧ k < w.heap.size) (h0 : I [] O w) (a₁ : α → Act)
    (hassign : ∀ (l : Nat) (x : α) (W : World) (K : Act → World → Prop), K (a₁ x) W →
      assign.wpIn (F.inRound l) (n - 1 - 1) P (Exit.then K (fun _ _ _ => False)) { tmps := (ps.zip (encs x)).foldl (fun t (p, v) => t.setIfInBounds p v) a.tmps, defers := [] } W)
    (hbody : ∀ (l : Nat) (pre : List α) (x : α) (O : Nat → Prop) (W : World), I pre O W → pre.length < N → w.heap.size ≤ W.heap.size → body.wpIn (F.inRound l) (n - 1 - 1) P (roundEnds I Ix (pre ++ [x]) O W) (a₁ x) W)
    (hdone : ∀ (D : Nat) (xs : List α) (O : Nat → Prop) (W : World), w.heap.size ≤ D → ¬ O D → S xs → I xs O W → W.heap[D]? = some (.deferred (some [])) → Q .normal { a with defers := { target := .collected D, args := #[] } :: a.defers } W)
    (hstop : ∀ (D : Nat) (c : Code) (pre : List α) (O : Nat → Prop) (W : World), w.heap.size ≤ D → ¬ O D → Sp pre → Ix c pre O W → W.heap[D]? = some (.deferred (some [])) → c.wpIn F n P Q { a with defers := { target := .collected D, args := #[] } :: a.defers } W) :
    (Code.rangeFunc g ps assign body).wpIn F n P Q a w := by
  refine wpIn_rangeFunc fun fn hfn => ?_
  rw [hro]
  obtain ⟨D, hD⟩ : ∃ D, D = w.heap.size := ⟨_, rfl⟩
  obtain ⟨rec, hrec⟩ : ∃ rec : LoopState → Option Code → Loop, rec = fun st pe => { state := st, pending := pe, fn, tmps := a.tmps, params := ps, assign, body, defers := w.heap.size } := ⟨_, rfl⟩
  obtain ⟨W1, hW1⟩ : ∃ W1, W1 = (w.alloc (.deferred (some []))).alloc (.loop (rec .ready none)) := ⟨_, rfl⟩
  have hz : W1.heap.size = D + 2 := by rw [hW1, hD]; simp
  have hk : ∀ T, Keep T w W1 := fun T => by rw [hW1]; exact (Keep.alloc T w _).trans (Keep.alloc T _ _)
  have hL : W1.heap[D + 1]? = some (.loop (rec .ready none)) := by
    rw [hW1, hD]; have := World.alloc_heap_new (w.alloc (.deferred (some []))) (.loop (rec .ready none)); rwa [World.size_alloc] at this
  have hDD : W1.heap[D]? = some (.deferred (some [])) := by
    rw [hW1, hD]; exact (Below.heap_alloc _ _ _ (by simp)).trans (World.alloc_heap_new w _)
  have hDO : ¬ O D := fun h => by have := (hO D h).2; omega
  have hLO : ¬ O (D + 1) := fun h => by have := (hO _ h).2; omega
  refine ⟨D + 1, [{ target := .collected D, args := #[] }], W1, { target := .fn (.func gf) lb, args := #[.func (.yield (D + 1)) #[] #[]] }, W1, gf, #[.func (.yield (D + 1)) #[] #[]] ++ lb, W1, ?_, ?_, ?_, ?_, h1, ?_⟩
  · rw [hW1, hrec, hD]; exact run_enterLoop_outer _ _ _ _ _
  · simp only [resolve, hg]
    simp [go_sem]
  · intro f' hf'; simp [Target.leads] at hf'; subst hf'; exact hFg
  · simp [invoke, go_sem, eg]
  · -- the two invariants, with the loop's own two blocks beside them
    refine (hseq (D + 1)
      (fun pre U W => ∃ O, (∀ k, U k ↔ O k ∨ k = D ∨ k = D + 1) ∧ ¬ O D ∧ ¬ O (D + 1) ∧ I pre O W ∧ W.heap[D + 1]? = some (.loop (rec .ready none)) ∧ W.heap[D]? = some (.deferred (some [])))
      (fun pre U W => ∃ O c, (∀ k, U k ↔ O k ∨ k = D ∨ k = D + 1) ∧ ¬ O D ∧ ¬ O (D + 1) ∧ Ix c pre O W ∧ W.heap[D + 1]? = some (.loop (rec .done (some c))) ∧ W.heap[D]? = some (.deferred (some [])))
      (fun k => O k ∨ k = D ∨ k = D + 1) W1 (hw0.trans (hk _)) ?_ ?_ ?_ ?_ ⟨O, fun k => Iff.rfl, hDO, hLO, hI _ _ _ _ h0 (hk _), hL, hDD⟩).mono ?_
    · rintro k (h | rfl | rfl)
      · exact ⟨(hO k h).1, by have := (hO k h).2; omega⟩
      · exact ⟨fun h => by have := hRd _ h; have := hw0.size; omega, by omega⟩
      · exact ⟨fun h => by have := hRd _ h; have := hw0.size; omega, by omega⟩
    · rintro pre U A B ⟨O, hU, hd, hl, hi, h3, h4⟩ hAB
      exact ⟨O, hU, hd, hl, hI _ _ _ _ hi (hAB.mono fun k _ hk => hk.elim (fun hk => .inl (by omega)) (fun hk => .inr ((hU k).2 (.inl hk)))), hAB.heap h3 (.inl (by omega)), hAB.heap h4 (.inl (by omega))⟩
    · rintro pre U A B ⟨O, c, hU, hd, hl, hi, h3, h4⟩ hAB
      exact ⟨O, c, hU, hd, hl, hIx c _ _ _ _ hi (hAB.mono fun k _ hk => hk.elim (fun hk => .inl (by omega)) (fun hk => .inr ((hU k).2 (.inl hk)))), hAB.heap h3 (.inl (by omega)), hAB.heap h4 (.inl (by omega))⟩
    · -- one round
      rintro pre x U W ⟨O, hU, hd, hl, hi, h3, h4⟩ hlen
      have hlt : D + 1 < W.heap.size := (Array.getElem?_eq_some_iff.1 h3).1
      have hy := run_yield (P := P) (args := encs x) h3 (by rw [hrec]; exact hps x)
      rw [hrec] at hy
      refine ⟨fn, _, assign, body, hy, roundIn_of_wpIn hfn (hassign _ x W _ ⟨_, run_beginRound h3 (by rw [hrec]), ?_⟩)⟩
      clear hy
      obtain ⟨W2, hW2⟩ : ∃ W2, W2 = W.putObj (D + 1) (.loop { rec .ready none with state := .busy }) := ⟨_, rfl⟩
      have h3' : W2.heap[D + 1]? = some (.loop { rec .ready none with state := .busy }) := by rw [hW2]; exact World.putObj_heap_same hlt
      have h4' : W2.heap[D]? = some (.deferred (some [])) := by rw [hW2]; exact (World.putObj_heap_other (by omega)).trans h4
      have hz2 : W2.heap.size = W.heap.size := by rw [hW2]; simp
      have hk2 : ∀ T : Nat → Prop, ¬ T (D + 1) → Keep T W W2 := fun T hT => by rw [hW2]; exact Keep.putObj _ _ _ hT
      have hi2 : I pre O W2 := hI _ _ _ _ hi (hk2 _ (by rintro (h | h); omega; exact hl h))
      rw [← hW2]
      refine wpIn_mono (hbody _ pre x O W2 hi2 hlen (by omega)) ?_
      have fin : ∀ (jump : Option Code) (W3 : World) (O' : Nat → Prop), Keep (fun k => ¬ O k) W2 W3 → (∀ k, O' k → O k ∨ W2.heap.size ≤ k) →
          (Instr.endRound (D + 1) jump).run P W3 = .ok (.bool jump.isNone) (W3.putObj (D + 1) (.loop (rec (if jump.isNone then .ready else .done) jump))) ∧
          (W3.putObj (D + 1) (.loop (rec (if jump.isNone then .ready else .done) jump))).heap[D + 1]? = some (.loop (rec (if jump.isNone then .ready else .done) jump)) ∧
          (W3.putObj (D + 1) (.loop (rec (if jump.isNone then .ready else .done) jump))).heap[D]? = some (.deferred (some [])) ∧
          Keep (fun k => ¬ U k) W (W3.putObj (D + 1) (.loop (rec (if jump.isNone then .ready else .done) jump))) ∧
          (∀ k, (O' k ∨ k = D ∨ k = D + 1) → U k ∨ W.heap.size ≤ k) ∧ ¬ O' D ∧ ¬ O' (D + 1) ∧
          (∀ o, Keep (fun k => k < w.heap.size ∨ O' k) W3 (W3.putObj (D + 1) o)) := by
        intro jump W3 O' hk3 ho3
        have hl3 := hk3.heap h3' hl
        have hd3 := hk3.heap h4' hd
        have hrun := run_endRound (P := P) jump hl3
        have hoD : ¬ O' D := fun h => (ho3 _ h).elim hd (by omega)
        have hoL : ¬ O' (D + 1) := fun h => (ho3 _ h).elim hl (by omega)
        refine ⟨by rw [hrec] at hrun ⊢; exact hrun, World.putObj_heap_same (Array.getElem?_eq_some_iff.1 hl3).1, (World.putObj_heap_other (by omega)).trans hd3, ?_, ?_, hoD, hoL, ?_⟩
        · refine ((hk2 _ (fun h => h ((hU _).2 (.inr (.inr rfl))))).trans (hk3.mono fun k _ h hk => h ((hU k).2 (.inl hk)))).trans (Keep.putObj _ _ _ (fun h => h ((hU _).2 (.inr (.inr rfl)))))
        · rintro k (h | rfl | rfl)
          · rcases ho3 _ h with h | h
            · exact .inl ((hU k).2 (.inl h))
            · exact .inr (by omega)
          · exact .inl ((hU _).2 (.inr (.inl rfl)))
          · exact .inl ((hU _).2 (.inr (.inr rfl)))
        · intro o
          exact Keep.putObj _ _ _ (by rintro (h | h); omega; exact hoL h)
      rintro e a3 W3 hp
      cases e with
      | normal =>
        obtain ⟨O', hk3, ho3, hi3⟩ := hp
        obtain ⟨hr, e3, e4, ek, eo, ed, el, es⟩ := fin none W3 O' hk3 ho3
        exact ⟨_, _, hr, _, ek, eo, .inl ⟨rfl, O', fun k => Iff.rfl, ed, el, hI _ _ _ _ hi3 (es _), e3, e4⟩⟩
      | ret =>
        obtain ⟨O', hk3, ho3, hi3⟩ := hp
        obtain ⟨hr, e3, e4, ek, eo, ed, el, es⟩ := fin (some .ret) W3 O' hk3 ho3
        exact ⟨_, _, hr, _, ek, eo, .inr ⟨rfl, O', _, fun k => Iff.rfl, ed, el, hIx _ _ _ _ _ hi3 (es _), e3, e4⟩⟩
      | exit id =>
        obtain ⟨O', hk3, ho3, hi3⟩ := hp
        obtain ⟨hr, e3, e4, ek, eo, ed, el, es⟩ := fin (some (.exit id)) W3 O' hk3 ho3
        exact ⟨_, _, hr, _, ek, eo, .inr ⟨rfl, O', _, fun k => Iff.rfl, ed, el, hIx _ _ _ _ _ hi3 (es _), e3, e4⟩⟩
      | goto t =>
        obtain ⟨O', hk3, ho3, hi3⟩ := hp
        obtain ⟨hr, e3, e4, ek, eo, ed, el, es⟩ := fin (some (.goto t)) W3 O' hk3 ho3
        exact ⟨_, _, hr, _, ek, eo, .inr ⟨rfl, O', _, fun k => Iff.rfl, ed, el, hIx _ _ _ _ _ hi3 (es _), e3, e4⟩⟩
      | panic ch => exact hp.elim
      | outgrown => exact hp.elim
    · -- behind the iterator
      rintro e W2 ⟨⟨v, rfl⟩, U, (⟨xs, hS, O, hU, hd, hl, hi, h3, h4⟩ | ⟨pre, hSp, O, c, hU, hd, hl, hi, h3, h4⟩)⟩
      · have he := run_endLoop (P := P) h3 (by rw [hrec]; simp)
        rw [hrec] at he
        exact ⟨none, _, he, hdone D xs O _ (by omega) hd hS (hI _ _ _ _ hi (Keep.putObj _ _ _ (by rintro (h | h); omega; exact hl h))) ((World.putObj_heap_other (by omega)).trans h4)⟩
      · have he := run_endLoop (P := P) h3 (by rw [hrec]; simp)
        rw [hrec] at he
        exact ⟨some c, _, he, hstop D c pre O _ (by omega) hd hSp (hIx c _ _ _ _ hi (Keep.putObj _ _ _ (by rintro (h | h); omega; exact hl h))) ((World.putObj_heap_other (by omega)).trans h4)⟩

end
section
open Go.RowKit

/-- how a round answers: what lay and is not in its set lies as it lay, its set has grown by blocks that it made -/
def AnswersO {α : Type} (Ow : α → Nat → Prop) (x : α) (J Jx : List α → (Nat → Prop) → World → Prop) (xs : List α) (O : Nat → Prop) (W : World) (e : Ending) (W' : World) : Prop :=
  ∃ O', Keep (fun k => ¬ O k) W W' ∧ (∀ k, O' k → O k ∨ Ow x k ∨ W.heap.size ≤ k ∧ k < W'.heap.size) ∧
    ((e = .returned (.bool true) ∧ J xs O' W') ∨ (e = .returned (.bool false) ∧ Jx xs O' W'))
def roundEndsO {α : Type} (Ow : α → Nat → Prop) (x : α) (I : List α → (Nat → Prop) → World → Prop) (Ix : Code → List α → (Nat → Prop) → World → Prop) (xs : List α) (O : Nat → Prop) (W : World) : Exit → Act → World → Prop
  | .normal, _, W' => ∃ O', Keep (fun k => ¬ O k) W W' ∧ (∀ k, O' k → O k ∨ Ow x k ∨ W.heap.size ≤ k ∧ k < W'.heap.size) ∧ I xs O' W'
  | .ret, _, W' => ∃ O', Keep (fun k => ¬ O k) W W' ∧ (∀ k, O' k → O k ∨ Ow x k ∨ W.heap.size ≤ k ∧ k < W'.heap.size) ∧ Ix .ret xs O' W'
  | .exit id, _, W' => ∃ O', Keep (fun k => ¬ O k) W W' ∧ (∀ k, O' k → O k ∨ Ow x k ∨ W.heap.size ≤ k ∧ k < W'.heap.size) ∧ Ix (.exit id) xs O' W'
  | .goto t, _, W' => ∃ O', Keep (fun k => ¬ O k) W W' ∧ (∀ k, O' k → O k ∨ Ow x k ∨ W.heap.size ≤ k ∧ k < W'.heap.size) ∧ Ix (.goto t) xs O' W'
  | .panic _, _, _ => False
  | .outgrown, _, _ => False

/-- what a function value that may be ranged over gives: T says what may come in which order, At what a piece reads as when it is told -/
def IterO {α : Type} (F : Fence) (n : Nat) (P : Program) (g : Nat) (lb : Array Value) (encs : α → Array Value) (Rd : Nat → Prop) (T : List α → Prop) (At : α → World → Prop) (Ow : α → Nat → Prop) (S Sp : List α → Prop) (N : Nat) (w : World) : Prop :=
  ∀ (l : Nat) (J Jx : List α → (Nat → Prop) → World → Prop) (O : Nat → Prop) (W : World), Keep Rd w W → (∀ k, O k → ¬ Rd k ∧ k < W.heap.size) → Stable W.heap.size J → Stable W.heap.size Jx →
    (∀ pre x O W1, T (pre ++ [x]) → At x W1 → J pre O W1 → pre.length < N → YieldAt F (n - 1) P l (encs x) W1 (AnswersO Ow x J Jx (pre ++ [x]) O W1)) →
    J [] O W →
    CallsIn F n P g (#[.func (.yield l) #[] #[]] ++ lb) W fun e W' => (∃ v, e = .returned v) ∧ ∃ O', (∃ xs, S xs ∧ J xs O' W') ∨ (∃ pre, Sp pre ∧ Jx pre O' W')

/-- a loop over a function value, in a plain frame -/
theorem wpIn_range_iterO {F : Fence} {n : Nat} {P : Program} {α : Type} {g : Operand} {ps : Array Tmp} {assign body : Code} {Q : Exit → Act → World → Prop} {a : Act} {w : World}
    (hro : F.round = none) (h1 : F.depth.isSome = true → 1 ≤ n) {gf : Nat} {lb : Array Value} (hg : a.eval g = .func (.func gf) #[] lb) (hFg : F.fn gf) (eg : ∀ args w, (callFunc gf args).run P w = .ok (.enter gf args) w)
    {encs : α → Array Value} {Rd : Nat → Prop} {T : List α → Prop} {At : α → World → Prop} {Ow : α → Nat → Prop} {S Sp : List α → Prop} {N : Nat} {w0 : World} (hseq : IterO F (n - 1) P gf lb encs Rd T At Ow S Sp N w0) (hAt : ∀ (x : α) (W : World) (b : Nat) (r : Loop) (o : Obj), At x W → W.heap[b]? = some (.loop r) → At x (W.putObj b o)) (hAl : ∀ (x : α) (W : World) (o : Obj), At x W → At x (W.alloc o)) (hOw : ∀ (x : α) (W : World) (k : Nat), At x W → Ow x k → ∃ cs t fr, W.heap[k]? = some (.cells cs t fr)) (hw0 : Keep Rd w0 w) (hRd : ∀ k, Rd k → k < w0.heap.size) (hps : ∀ x, (encs x).size = ps.size)
    (I : List α → (Nat → Prop) → World → Prop) (Ix : Code → List α → (Nat → Prop) → World → Prop) (hI : Stable w.heap.size I) (hIx : ∀ c, Stable w.heap.size (Ix c))
    (O : Nat → Prop) (hO : ∀ k, O k → ¬ Rd k ∧ k < w.heap.size) (h0 : I [] O w) (a₁ : α → Nat → Act) (ox : α → Obj)
    (hassign : ∀ (l : Nat) (x : α) (W : World) (K : Act → World → Prop), K (a₁ x W.heap.size) (W.alloc (ox x)) →
      assign.wpIn (F.inRound l) (n - 1 - 1) P (Exit.then K (fun _ _ _ => False)) { tmps := (ps.zip (encs x)).foldl (fun t (p, v) => t.setIfInBounds p v) a.tmps, defers := [] } W)
    (hbody : ∀ (l : Nat) (pre : List α) (x : α) (O : Nat → Prop) (W : World) (bx : Nat), T (pre ++ [x]) → At x W → I pre O W → pre.length < N → w.heap.size ≤ W.heap.size → W.heap[bx]? = some (ox x) → body.wpIn (F.inRound l) (n - 1 - 1) P (roundEndsO Ow x I Ix (pre ++ [x]) O W) (a₁ x bx) W)
    (hdone : ∀ (D : Nat) (xs : List α) (O : Nat → Prop) (W : World), w.heap.size ≤ D → ¬ O D → S xs → I xs O W → W.heap[D]? = some (.deferred (some [])) → Q .normal { a with defers := { target := .collected D, args := #[] } :: a.defers } W)
    (hstop : ∀ (D : Nat) (c : Code) (pre : List α) (O : Nat → Prop) (W : World), w.heap.size ≤ D → ¬ O D → Sp pre → Ix c pre O W → W.heap[D]? = some (.deferred (some [])) → c.wpIn F n P Q { a with defers := { target := .collected D, args := #[] } :: a.defers } W) :
    (Code.rangeFunc g ps assign body).wpIn F n P Q a w := by
  refine wpIn_rangeFunc fun fn hfn => ?_
  rw [hro]
  obtain ⟨D, hD⟩ : ∃ D, D = w.heap.size := ⟨_, rfl⟩
  obtain ⟨rec, hrec⟩ : ∃ rec : LoopState → Option Code → Loop, rec = fun st pe => { state := st, pending := pe, fn, tmps := a.tmps, params := ps, assign, body, defers := w.heap.size } := ⟨_, rfl⟩
  obtain ⟨W1, hW1⟩ : ∃ W1, W1 = (w.alloc (.deferred (some []))).alloc (.loop (rec .ready none)) := ⟨_, rfl⟩
  have hz : W1.heap.size = D + 2 := by rw [hW1, hD]; simp
  have hk : ∀ T, Keep T w W1 := fun T => by rw [hW1]; exact (Keep.alloc T w _).trans (Keep.alloc T _ _)
  have hL : W1.heap[D + 1]? = some (.loop (rec .ready none)) := by
    rw [hW1, hD]; have := World.alloc_heap_new (w.alloc (.deferred (some []))) (.loop (rec .ready none)); rwa [World.size_alloc] at this
  have hDD : W1.heap[D]? = some (.deferred (some [])) := by
    rw [hW1, hD]; exact (Below.heap_alloc _ _ _ (by simp)).trans (World.alloc_heap_new w _)
  have hDO : ¬ O D := fun h => by have := (hO D h).2; omega
  have hLO : ¬ O (D + 1) := fun h => by have := (hO _ h).2; omega
  refine ⟨D + 1, [{ target := .collected D, args := #[] }], W1, { target := .fn (.func gf) lb, args := #[.func (.yield (D + 1)) #[] #[]] }, W1, gf, #[.func (.yield (D + 1)) #[] #[]] ++ lb, W1, ?_, ?_, ?_, ?_, h1, ?_⟩
  · rw [hW1, hrec, hD]; exact run_enterLoop_outer _ _ _ _ _
  · simp only [resolve, hg]
    simp [go_sem]
  · intro f' hf'; simp [Target.leads] at hf'; subst hf'; exact hFg
  · simp [invoke, go_sem, eg]
  · -- the two invariants, with the loop's own two blocks beside them
    refine (hseq (D + 1)
      (fun pre U W => ∃ O, (∀ k, U k ↔ O k ∨ k = D ∨ k = D + 1) ∧ ¬ O D ∧ ¬ O (D + 1) ∧ I pre O W ∧ W.heap[D + 1]? = some (.loop (rec .ready none)) ∧ W.heap[D]? = some (.deferred (some [])))
      (fun pre U W => ∃ O c, (∀ k, U k ↔ O k ∨ k = D ∨ k = D + 1) ∧ ¬ O D ∧ ¬ O (D + 1) ∧ Ix c pre O W ∧ W.heap[D + 1]? = some (.loop (rec .done (some c))) ∧ W.heap[D]? = some (.deferred (some [])))
      (fun k => O k ∨ k = D ∨ k = D + 1) W1 (hw0.trans (hk _)) ?_ ?_ ?_ ?_ ⟨O, fun k => Iff.rfl, hDO, hLO, hI _ _ _ _ h0 (hk _), hL, hDD⟩).mono ?_
    · rintro k (h | rfl | rfl)
      · exact ⟨(hO k h).1, by have := (hO k h).2; omega⟩
      · exact ⟨fun h => by have := hRd _ h; have := hw0.size; omega, by omega⟩
      · exact ⟨fun h => by have := hRd _ h; have := hw0.size; omega, by omega⟩
    · rintro pre U A B ⟨O, hU, hd, hl, hi, h3, h4⟩ hAB
      exact ⟨O, hU, hd, hl, hI _ _ _ _ hi (hAB.mono fun k _ hk => hk.elim (fun hk => .inl (by omega)) (fun hk => .inr ((hU k).2 (.inl hk)))), hAB.heap h3 (.inl (by omega)), hAB.heap h4 (.inl (by omega))⟩
    · rintro pre U A B ⟨O, c, hU, hd, hl, hi, h3, h4⟩ hAB
      exact ⟨O, c, hU, hd, hl, hIx c _ _ _ _ hi (hAB.mono fun k _ hk => hk.elim (fun hk => .inl (by omega)) (fun hk => .inr ((hU k).2 (.inl hk)))), hAB.heap h3 (.inl (by omega)), hAB.heap h4 (.inl (by omega))⟩
    · -- one round
      rintro pre x U Wo hT hAxo ⟨O, hU, hd, hl, hio, h3o, h4o⟩ hlen
      have hlto : D + 1 < Wo.heap.size := (Array.getElem?_eq_some_iff.1 h3o).1
      have hy := run_yield (P := P) (args := encs x) h3o (by rw [hrec]; exact hps x)
      rw [hrec] at hy
      obtain ⟨W, hWd⟩ : ∃ W, W = Wo.alloc (ox x) := ⟨_, rfl⟩
      have hko : ∀ T, Keep T Wo W := fun T => by rw [hWd]; exact Keep.alloc T Wo _
      have hzo : W.heap.size = Wo.heap.size + 1 := by rw [hWd]; simp
      have h3 : W.heap[D + 1]? = some (.loop (rec .ready none)) := (hko (fun _ => True)).heap h3o trivial
      have h4 : W.heap[D]? = some (.deferred (some [])) := (hko (fun _ => True)).heap h4o trivial
      have hxo : W.heap[Wo.heap.size]? = some (ox x) := by rw [hWd]; exact World.alloc_heap_new Wo _
      have hAx : At x W := by rw [hWd]; exact hAl _ _ _ hAxo
      have hi : I pre O W := hI _ _ _ _ hio (hko _)
      have hlt : D + 1 < W.heap.size := by omega
      refine ⟨fn, _, assign, body, hy, roundIn_of_wpIn hfn (hassign _ x Wo _ ?_)⟩
      rw [← hWd]
      refine ⟨_, run_beginRound h3 (by rw [hrec]), ?_⟩
      clear hy
      obtain ⟨W2, hW2⟩ : ∃ W2, W2 = W.putObj (D + 1) (.loop { rec .ready none with state := .busy }) := ⟨_, rfl⟩
      have h3' : W2.heap[D + 1]? = some (.loop { rec .ready none with state := .busy }) := by rw [hW2]; exact World.putObj_heap_same hlt
      have h4' : W2.heap[D]? = some (.deferred (some [])) := by rw [hW2]; exact (World.putObj_heap_other (by omega)).trans h4
      have hz2 : W2.heap.size = W.heap.size := by rw [hW2]; simp
      have hk2 : ∀ T : Nat → Prop, ¬ T (D + 1) → Keep T W W2 := fun T hT => by rw [hW2]; exact Keep.putObj _ _ _ hT
      have hi2 : I pre O W2 := hI _ _ _ _ hi (hk2 _ (by rintro (h | h); omega; exact hl h))
      have hAx2 : At x W2 := by rw [hW2]; exact hAt _ _ _ _ _ hAx h3
      rw [← hW2]
      have hx2 : W2.heap[Wo.heap.size]? = some (ox x) := by rw [hW2]; exact (World.putObj_heap_other (by omega)).trans hxo
      refine wpIn_mono (hbody _ pre x O W2 Wo.heap.size hT hAx2 hi2 hlen (by omega) hx2) ?_
      have fin : ∀ (jump : Option Code) (W3 : World) (O' : Nat → Prop), Keep (fun k => ¬ O k) W2 W3 → (∀ k, O' k → O k ∨ Ow x k ∨ W2.heap.size ≤ k ∧ k < W3.heap.size) →
          (Instr.endRound (D + 1) jump).run P W3 = .ok (.bool jump.isNone) (W3.putObj (D + 1) (.loop (rec (if jump.isNone then .ready else .done) jump))) ∧
          (W3.putObj (D + 1) (.loop (rec (if jump.isNone then .ready else .done) jump))).heap[D + 1]? = some (.loop (rec (if jump.isNone then .ready else .done) jump)) ∧
          (W3.putObj (D + 1) (.loop (rec (if jump.isNone then .ready else .done) jump))).heap[D]? = some (.deferred (some [])) ∧
          Keep (fun k => ¬ U k) Wo (W3.putObj (D + 1) (.loop (rec (if jump.isNone then .ready else .done) jump))) ∧
          (∀ k, (O' k ∨ k = D ∨ k = D + 1) → U k ∨ Ow x k ∨ Wo.heap.size ≤ k ∧ k < (W3.putObj (D + 1) (.loop (rec (if jump.isNone then .ready else .done) jump))).heap.size) ∧ ¬ O' D ∧ ¬ O' (D + 1) ∧
          (∀ o, Keep (fun k => k < w.heap.size ∨ O' k) W3 (W3.putObj (D + 1) o)) := by
        intro jump W3 O' hk3 ho3
        have hl3 := hk3.heap h3' hl
        have hd3 := hk3.heap h4' hd
        have hrun := run_endRound (P := P) jump hl3
        have hoD : ¬ O' D := fun h => by
          rcases ho3 _ h with h | h | h
          · exact hd h
          · obtain ⟨cs, t, fr, e⟩ := hOw _ _ _ hAx2 h
            rw [h4'] at e; cases e
          · omega
        have hoL : ¬ O' (D + 1) := fun h => by
          rcases ho3 _ h with h | h | h
          · exact hl h
          · obtain ⟨cs, t, fr, e⟩ := hOw _ _ _ hAx2 h
            rw [h3'] at e; cases e
          · omega
        refine ⟨by rw [hrec] at hrun ⊢; exact hrun, World.putObj_heap_same (Array.getElem?_eq_some_iff.1 hl3).1, (World.putObj_heap_other (by omega)).trans hd3, ?_, ?_, hoD, hoL, ?_⟩
        · refine (((hko _).trans (hk2 _ (fun h => h ((hU _).2 (.inr (.inr rfl)))))).trans (hk3.mono fun k _ h hk => h ((hU k).2 (.inl hk)))).trans (Keep.putObj _ _ _ (fun h => h ((hU _).2 (.inr (.inr rfl)))))
        · rintro k (h | rfl | rfl)
          · rcases ho3 _ h with h | h | h
            · exact .inl ((hU k).2 (.inl h))
            · exact .inr (.inl h)
            · exact .inr (.inr ⟨by omega, by rw [World.putObj_size]; omega⟩)
          · exact .inl ((hU _).2 (.inr (.inl rfl)))
          · exact .inl ((hU _).2 (.inr (.inr rfl)))
        · intro o
          exact Keep.putObj _ _ _ (by rintro (h | h); omega; exact hoL h)
      rintro e a3 W3 hp
      cases e with
      | normal =>
        obtain ⟨O', hk3, ho3, hi3⟩ := hp
        obtain ⟨hr, e3, e4, ek, eo, ed, el, es⟩ := fin none W3 O' hk3 ho3
        exact ⟨_, _, hr, _, ek, eo, .inl ⟨rfl, O', fun k => Iff.rfl, ed, el, hI _ _ _ _ hi3 (es _), e3, e4⟩⟩
      | ret =>
        obtain ⟨O', hk3, ho3, hi3⟩ := hp
        obtain ⟨hr, e3, e4, ek, eo, ed, el, es⟩ := fin (some .ret) W3 O' hk3 ho3
        exact ⟨_, _, hr, _, ek, eo, .inr ⟨rfl, O', _, fun k => Iff.rfl, ed, el, hIx _ _ _ _ _ hi3 (es _), e3, e4⟩⟩
      | exit id =>
        obtain ⟨O', hk3, ho3, hi3⟩ := hp
        obtain ⟨hr, e3, e4, ek, eo, ed, el, es⟩ := fin (some (.exit id)) W3 O' hk3 ho3
        exact ⟨_, _, hr, _, ek, eo, .inr ⟨rfl, O', _, fun k => Iff.rfl, ed, el, hIx _ _ _ _ _ hi3 (es _), e3, e4⟩⟩
      | goto t =>
        obtain ⟨O', hk3, ho3, hi3⟩ := hp
        obtain ⟨hr, e3, e4, ek, eo, ed, el, es⟩ := fin (some (.goto t)) W3 O' hk3 ho3
        exact ⟨_, _, hr, _, ek, eo, .inr ⟨rfl, O', _, fun k => Iff.rfl, ed, el, hIx _ _ _ _ _ hi3 (es _), e3, e4⟩⟩
      | panic ch => exact hp.elim
      | outgrown => exact hp.elim
    · -- behind the iterator
      rintro e W2 ⟨⟨v, rfl⟩, U, (⟨xs, hS, O, hU, hd, hl, hi, h3, h4⟩ | ⟨pre, hSp, O, c, hU, hd, hl, hi, h3, h4⟩)⟩
      · have he := run_endLoop (P := P) h3 (by rw [hrec]; simp)
        rw [hrec] at he
        exact ⟨none, _, he, hdone D xs O _ (by omega) hd hS (hI _ _ _ _ hi (Keep.putObj _ _ _ (by rintro (h | h); omega; exact hl h))) ((World.putObj_heap_other (by omega)).trans h4)⟩
      · have he := run_endLoop (P := P) h3 (by rw [hrec]; simp)
        rw [hrec] at he
        exact ⟨some c, _, he, hstop D c pre O _ (by omega) hd hSp (hIx c _ _ _ _ hi (Keep.putObj _ _ _ (by rintro (h | h); omega; exact hl h))) ((World.putObj_heap_other (by omega)).trans h4)⟩

end
end Go.Proofs.Ytpcebfefbnpbpaa
