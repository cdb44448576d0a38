import Derived.Orders
import Derived.OwnWalk
import Derived.Deep.AppendLies
import Derived.Test.YtbfjihbkkcggmaaPackD
import Derived.Calls
import Derived.Test.YtbfjihbkkcggmaaChecked
import Derived.Test.YtbfjihbkkcggmaaPackF
/- A region that draws its order, told operation by operation: what each slot holds once its operation is done, whatever was done ahead of it. For regions that make memory in many orders. Nothing of the program. -/
namespace Go.Proofs.Ytbfjihbkkcggmaa
open Go

/-- every writer of slot k waits for operation i -/
def waits (ops : Array Oper) (i : Nat) (k : Tmp) : Bool := ops.all fun o => !(o.dst == some k) || o.after.any fun e => Region.binds .any e && e.on == i

/-- one operation, and what it leaves -/
def StepsTo (P : Program) (ops : Array Oper) (Q : Exit → Act → World → Prop) (o : Oper) (a : Act) (w : World) (R : Value → World → Prop) : Prop :=
  ∀ K : Act → World → Prop, (∀ v w', R v w' → K (a.put o.dst v) w') → if Region.wanted o (yielded ops a.tmps) = true then o.wp P a w K Q else K (a.put o.dst undef) w

/-- where the operations of L are done -/
structure Done (ops : Array Oper) (a0 a : Act) (L : Array Bool) (w : World) (T : Nat → Value → World → Prop) : Prop where
  size : L.size = ops.size
  defers : a.defers = a0.defers
  slots : a.tmps.size = a0.tmps.size
  closed : ∀ (j : Nat) (oj : Oper), ops[j]? = some oj → L.getD j true = true → ∀ e ∈ oj.after, Region.binds .any e = true → L.getD e.on false = true
  frame : ∀ k, (∀ (j : Nat) (oj : Oper), ops[j]? = some oj → oj.dst = some k → L.getD j true = false) → a.eval (.tmp k) = a0.eval (.tmp k)
  told : ∀ (j : Nat) (oj : Oper) (d : Tmp), ops[j]? = some oj → oj.dst = some d → L.getD j true = true → T j (a.eval (.tmp d)) w

set_option maxRecDepth 100000 in
theorem cnt_one (f g : Nat → Bool) (i : Nat) (h1 : f i = true) (h2 : g i = false) (h3 : ∀ j, j ≠ i → g j = f j) : ∀ n, (List.range n).countP g + (if i < n then 1 else 0) = (List.range n).countP f
  | 0 => by simp
  | n + 1 => by
    have ih := cnt_one f g i h1 h2 h3 n
    rw [List.range_succ, List.countP_append, List.countP_append, List.countP_singleton, List.countP_singleton]
    by_cases hn : n = i
    · subst hn
      rw [if_neg (by omega)] at ih
      rw [h1, h2, if_pos (show n < n + 1 by omega)]
      simp only [Bool.false_eq_true, if_false, if_true]
      omega
    · rw [h3 n hn]
      by_cases hi : i < n
      · rw [if_pos hi] at ih
        rw [if_pos (show i < n + 1 by omega)]; omega
      · rw [if_neg hi] at ih
        rw [if_neg (show ¬ i < n + 1 by omega)]; omega

set_option maxRecDepth 100000 in
theorem getD_true {L : Array Bool} {i : Nat} (hi : i < L.size) (d d' : Bool) : L.getD i d = L.getD i d' := by simp [hi]
set_option maxRecDepth 100000 in
theorem eval_same {a : Act} {d : Tmp} (v : Value) (h : d < a.tmps.size) : (a.put (some d) v).eval (.tmp d) = v := by
  simp [Act.eval, Act.put, h]

set_option maxRecDepth 100000 in
theorem wpAny_told {P : Program} {ops : Array Oper} {Q : Exit → Act → World → Prop} {a0 : Act} {w0 : World} (ia : Nat) (row : Option Nat) (T : Nat → Value → World → Prop)
    (hds : ∀ (i j : Nat) (oi oj : Oper) (d : Tmp), ops[i]? = some oi → ops[j]? = some oj → oi.dst = some d → oj.dst = some d → i = j)
    (hlow : ∀ (j : Nat) (oj : Oper), ops[j]? = some oj → ∀ e ∈ oj.after, Region.binds .any e = true → e.on < j)
    (hin : ∀ (i : Nat) (oi : Oper) (d : Tmp), ops[i]? = some oi → oi.dst = some d → d < a0.tmps.size)
    (hmono : ∀ (i : Nat) (v : Value) (w w' : World), T i v w → w.grownBy w' none → T i v w')
    (hmonoR : ∀ (i : Nat) (v : Value) (w w' : World), i < ia → T i v w → w.grownBy w' row → T i v w')
    (hlast : ∀ (j : Nat) (oj : Oper), ops[j]? = some oj → ia < j → ∃ e ∈ oj.after, Region.binds .any e = true ∧ e.on = ia)
    (hstep : ∀ (i : Nat) (o : Oper), ops[i]? = some o → ∀ (a : Act) (w : World), a.tmps.size = a0.tmps.size → w0.grownBy w row → (i = ia → w0.grownBy w none) → (∀ k, waits ops i k = true → a.eval (.tmp k) = a0.eval (.tmp k)) →
      (∀ e ∈ o.after, Region.binds .any e = true → ∀ (oe : Oper) (d : Tmp), ops[e.on]? = some oe → oe.dst = some d → T e.on (a.eval (.tmp d)) w) →
      StepsTo P ops Q o a w fun v w' => T i v w' ∧ w.grownBy w' row ∧ (i ≠ ia → w.grownBy w' none))
    (hend : ∀ (a : Act) (w : World), a.defers = a0.defers → a.tmps.size = a0.tmps.size → w0.grownBy w row → (∀ k, (∀ (j : Nat) (oj : Oper), ops[j]? = some oj → oj.dst ≠ some k) → a.eval (.tmp k) = a0.eval (.tmp k)) →
      (∀ (j : Nat) (oj : Oper) (d : Tmp), ops[j]? = some oj → oj.dst = some d → T j (a.eval (.tmp d)) w) → Q .normal a w) :
    ∀ fuel L a w, (List.range ops.size).countP (fun i => !L.getD i true) ≤ fuel → Done ops a0 a L w T → w0.grownBy w row → (L.getD ia false = false → w0.grownBy w none) → wpAny P .any ops Q fuel L a w := by
  have fin : ∀ L a w, Done ops a0 a L w T → w0.grownBy w row → (∀ j, j < ops.size → L.getD j true = true) → Q .normal a w := by
    intro L a w hD hg hall
    have hl : ∀ (j : Nat) (oj : Oper), ops[j]? = some oj → L.getD j true = true := fun j oj ho => hall j (Array.getElem?_eq_some_iff.1 ho).1
    exact hend a w hD.defers hD.slots hg (fun k hk => hD.frame k fun j oj ho hd => absurd hd (hk j oj ho)) (fun j oj d ho hd => hD.told j oj d ho hd (hl j oj ho))
  have stuck : ∀ L : Array Bool, L.size = ops.size → Region.ready .any ops L = [] → ∀ j, j < ops.size → L.getD j true = true := by
    intro L hs hr j
    induction j using Nat.strongRecOn with
    | _ j ih =>
      intro hj
      cases hL : L.getD j true with
      | true => rfl
      | false =>
        have : j ∈ Region.ready .any ops L := mem_ready.2 ⟨hL, ops[j], Array.getElem?_eq_getElem hj, fun e he hb => by
          have hlt := hlow j ops[j] (Array.getElem?_eq_getElem hj) e he hb
          rw [getD_true (by omega) false true]
          exact ih e.on hlt (by omega)⟩
        rw [hr] at this; cases this
  have one : ∀ (L : Array Bool) (a : Act) (w : World), Done ops a0 a L w T → w0.grownBy w row → (L.getD ia false = false → w0.grownBy w none) → ∀ i, i ∈ Region.ready .any ops L → ∀ K : Act → World → Prop,
      (∀ a' w', Done ops a0 a' (L.setIfInBounds i true) w' T → w0.grownBy w' row → ((L.setIfInBounds i true).getD ia false = false → w0.grownBy w' none) → K a' w') → wpOp P ops Q i K a w := by
    intro L a w hD hg hn i hi K hK
    obtain ⟨hLi, o, ho, haf⟩ := mem_ready.1 hi
    have hio : i < ops.size := (Array.getElem?_eq_some_iff.1 ho).1
    have hiL : i < L.size := by rw [hD.size]; exact hio
    have hwait : ∀ k, waits ops i k = true → a.eval (.tmp k) = a0.eval (.tmp k) := by
      intro k hk
      refine hD.frame k fun j oj hoj hdj => ?_
      cases hLj : L.getD j true with
      | false => rfl
      | true =>
        unfold waits at hk
        rw [Array.all_eq_true_iff_forall_mem] at hk
        have hm : oj ∈ ops := Array.mem_of_getElem? hoj
        have h := hk oj hm
        rw [hdj] at h
        simp only [beq_self_eq_true, Bool.not_true, Bool.false_or] at h
        rw [← Array.any_toList, List.any_eq_true] at h
        obtain ⟨e, he', hb⟩ := h
        have he : e ∈ oj.after := by simpa using he'
        rw [Bool.and_eq_true, beq_iff_eq] at hb
        have := hD.closed j oj hoj hLj e he hb.1
        rw [hb.2, getD_true hiL false true, hLi] at this
        cases this
    have htold : ∀ e ∈ o.after, Region.binds .any e = true → ∀ (oe : Oper) (d : Tmp), ops[e.on]? = some oe → oe.dst = some d → T e.on (a.eval (.tmp d)) w := by
      intro e he hb oe d hoe hd
      have h := haf e he hb
      have hlt : e.on < L.size := by rw [hD.size]; exact (Array.getElem?_eq_some_iff.1 hoe).1
      rw [getD_true hlt false true] at h
      exact hD.told e.on oe d hoe hd h
    have hS := hstep i o ho a w hD.slots hg (fun e => hn (by rw [← e, getD_true hiL false true]; exact hLi)) hwait htold K (fun v w' hR => by
      obtain ⟨hT, hgr, hgn⟩ := hR
      refine hK _ _ ⟨by simp [hD.size], ?_, ?_, ?_, ?_, ?_⟩ (hg.trans hgr) ?_
      · cases o.dst <;> exact hD.defers
      · cases o.dst with
        | none => exact hD.slots
        | some d => simp [Act.put, hD.slots]
      · intro j oj hoj hLj e he hb
        by_cases hji : j = i
        · subst hji
          rw [ho] at hoj; cases hoj
          have h := haf e he hb
          by_cases hei : e.on = j
          · rw [hei, getD_true (by simpa using hiL) false true]
            simp [hiL]
          · rw [getD_set_ne false (fun h => hei h.symm)]; exact h
        · rw [getD_set_ne true (fun h => hji h.symm)] at hLj
          have h := hD.closed j oj hoj hLj e he hb
          by_cases hei : e.on = i
          · rw [hei, getD_true (by simpa using hiL) false true]
            simp [hiL]
          · rw [getD_set_ne false (fun h => hei h.symm)]; exact h
      · intro k hk
        have hne : ∀ d, o.dst = some d → Operand.tmp k ≠ .tmp d := fun d hd e => by
          cases e
          have := hk i o ho hd
          simp [hiL] at this
        rw [Act.eval_put hne]
        refine hD.frame k fun j oj hoj hdj => ?_
        have h := hk j oj hoj hdj
        by_cases hji : j = i
        · rw [hji]; exact hLi
        · rw [getD_set_ne true (fun h => hji h.symm)] at h; exact h
      · intro j oj d hoj hdj hLj
        by_cases hji : j = i
        · subst hji
          rw [ho] at hoj; cases hoj
          rw [hdj, eval_same v (by rw [hD.slots]; exact hin j o d ho hdj)]; exact hT
        · rw [getD_set_ne true (fun h => hji h.symm)] at hLj
          have hne : ∀ d', o.dst = some d' → Operand.tmp d ≠ .tmp d' := fun d' hd' e => by
            cases e
            exact hji (hds j i oj o d hoj ho hdj hd')
          rw [Act.eval_put hne]
          have hT' := hD.told j oj d hoj hdj hLj
          by_cases hia : i = ia
          · refine hmonoR j _ _ _ ?_ hT' hgr
            rcases Nat.lt_or_ge ia j with hlt | hge
            · obtain ⟨e, he, hb, hon⟩ := hlast j oj hoj hlt
              have h := hD.closed j oj hoj hLj e he hb
              rw [hon, ← hia, getD_true hiL false true, hLi] at h; cases h
            · omega
          · exact hmono j _ _ _ hT' (hgn hia)
      · intro hia
        by_cases h : i = ia
        · subst h
          rw [getD_true (by simpa using hiL) false true] at hia
          simp [hiL] at hia
        · rw [getD_set_ne false h] at hia
          exact (hn hia).trans (hgn h))
    unfold wpOp
    rw [ho]
    simp only
    split
    · rename_i hw; rw [if_pos hw] at hS; exact .inl hS
    · rename_i hw; rw [if_neg hw] at hS; exact hS
  intro fuel
  induction fuel with
  | zero =>
    intro L a w hc hD hg _
    have hall : ∀ j, j < ops.size → L.getD j true = true := fun j hj => by
      have := List.countP_eq_zero.1 (Nat.le_zero.1 hc) j (List.mem_range.2 hj)
      simpa using this
    refine ⟨?_, fin L a w hD hg hall⟩
    cases hr : Region.ready .any ops L with
    | nil => rfl
    | cons i rs =>
      have hi : i ∈ Region.ready .any ops L := by rw [hr]; simp
      obtain ⟨hLi, o, ho, _⟩ := mem_ready.1 hi
      rw [hall i (Array.getElem?_eq_some_iff.1 ho).1] at hLi; cases hLi
  | succ fuel ih =>
    intro L a w hc hD hg hn
    refine ⟨fun hr => fin L a w hD hg (stuck L hD.size hr), fun i hi => one L a w hD hg hn i hi _ fun a' w' hD' hg' hn' => ih _ _ _ ?_ hD' hg' hn'⟩
    obtain ⟨hLi, o, ho, _⟩ := mem_ready.1 hi
    have hio : i < ops.size := (Array.getElem?_eq_some_iff.1 ho).1
    have hiL : i < L.size := by rw [hD.size]; exact hio
    have := cnt_one (fun j => !L.getD j true) (fun j => !(L.setIfInBounds i true).getD j true) i (by rw [hLi]; rfl) (by simp [hiL]) (fun j hj => by rw [getD_set_ne true (fun h => hj h.symm)]) ops.size
    rw [if_pos hio] at this
    omega

set_option maxRecDepth 100000 in
/-- a region that draws its order -/
theorem wp_region_told {P : Program} {ops : Array Oper} {Q : Exit → Act → World → Prop} {a0 : Act} {w : World} {id : Nat} (hm : P.follows .mixedOrders = true) (ia : Nat) (row : Option Nat) (T : Nat → Value → World → Prop)
    (hds : ∀ (i j : Nat) (oi oj : Oper) (d : Tmp), ops[i]? = some oi → ops[j]? = some oj → oi.dst = some d → oj.dst = some d → i = j)
    (hlow : ∀ (j : Nat) (oj : Oper), ops[j]? = some oj → ∀ e ∈ oj.after, Region.binds .any e = true → e.on < j)
    (hin : ∀ (i : Nat) (oi : Oper) (d : Tmp), ops[i]? = some oi → oi.dst = some d → d < a0.tmps.size)
    (hmono : ∀ (i : Nat) (v : Value) (w w' : World), T i v w → w.grownBy w' none → T i v w')
    (hmonoR : ∀ (i : Nat) (v : Value) (w w' : World), i < ia → T i v w → w.grownBy w' row → T i v w')
    (hlast : ∀ (j : Nat) (oj : Oper), ops[j]? = some oj → ia < j → ∃ e ∈ oj.after, Region.binds .any e = true ∧ e.on = ia)
    (hstep : ∀ (i : Nat) (o : Oper), ops[i]? = some o → ∀ (a : Act) (w1 : World), a.tmps.size = a0.tmps.size → w.drew.grownBy w1 row → (i = ia → w.drew.grownBy w1 none) → (∀ k, waits ops i k = true → a.eval (.tmp k) = a0.eval (.tmp k)) →
      (∀ e ∈ o.after, Region.binds .any e = true → ∀ (oe : Oper) (d : Tmp), ops[e.on]? = some oe → oe.dst = some d → T e.on (a.eval (.tmp d)) w1) →
      StepsTo P ops Q o a w1 fun v w' => T i v w' ∧ w1.grownBy w' row ∧ (i ≠ ia → w1.grownBy w' none))
    (hend : ∀ (a : Act) (w1 : World), a.defers = a0.defers → a.tmps.size = a0.tmps.size → w.drew.grownBy w1 row → (∀ k, (∀ (j : Nat) (oj : Oper), ops[j]? = some oj → oj.dst ≠ some k) → a.eval (.tmp k) = a0.eval (.tmp k)) →
      (∀ (j : Nat) (oj : Oper) (d : Tmp), ops[j]? = some oj → oj.dst = some d → T j (a.eval (.tmp d)) w1) → Q .normal a w1) : (Code.region id ops true).wp P Q a0 w := by
  refine wp_region_any hm (wpAny_told (w0 := w.drew) ia row T hds hlow hin hmono hmonoR hlast hstep hend ops.size (Array.replicate ops.size false) a0 w.drew ?_ ⟨by simp, rfl, rfl, ?_, fun _ _ => rfl, ?_⟩ (World.grownBy.refl _ _) (fun _ => World.grownBy.refl _ _))
  · exact Nat.le_trans List.countP_le_length (by simp)
  · intro j oj hoj h
    have hj := (Array.getElem?_eq_some_iff.1 hoj).1
    simp [hj] at h
  · intro j oj d hoj _ h
    have hj := (Array.getElem?_eq_some_iff.1 hoj).1
    simp [hj] at h

/-! ### the checks by one Bool, and what a step is told by the numbers of its operations -/
def regFine (ops : Array Oper) (ia n : Nat) : Bool :=
  (List.range ops.size).all fun j => match ops[j]? with
    | none => true
    | some oj => (oj.after.toList.all fun e => !Region.binds .any e || decide (e.on < j)) && (!decide (ia < j) || oj.after.toList.any fun e => Region.binds .any e && e.on == ia) &&
      match oj.dst with
      | none => true
      | some d => decide (d < n) && (List.range j).all fun i => match ops[i]? with
        | none => true
        | some oi => !(oi.dst == some d)
/-- operation i waits for operation k, which writes slot d -/
def needs (ops : Array Oper) (i k d : Nat) : Bool := match ops[i]?, ops[k]? with
  | some oi, some ok => (oi.after.toList.any fun e => Region.binds .any e && e.on == k) && ok.dst == some d
  | _, _ => false
set_option maxRecDepth 100000 in
theorem regFine_at {ops : Array Oper} {ia n : Nat} (h : regFine ops ia n = true) {j : Nat} {oj : Oper} (ho : ops[j]? = some oj) :
    (∀ e ∈ oj.after, Region.binds .any e = true → e.on < j) ∧ (ia < j → ∃ e ∈ oj.after, Region.binds .any e = true ∧ e.on = ia) ∧ ∀ d, oj.dst = some d → d < n ∧ ∀ i oi, i < j → ops[i]? = some oi → oi.dst ≠ some d := by
  unfold regFine at h
  have hj := List.all_eq_true.1 h j (List.mem_range.2 (Array.getElem?_eq_some_iff.1 ho).1)
  rw [ho] at hj
  simp only [Bool.and_eq_true] at hj
  obtain ⟨⟨h1, h2⟩, h3⟩ := hj
  refine ⟨fun e he hb => ?_, fun hlt => ?_, fun d hd => ?_⟩
  · have := List.all_eq_true.1 h1 e (by simpa using he)
    simpa [hb] using this
  · have h2' : oj.after.toList.any (fun e => Region.binds .any e && e.on == ia) = true := by simpa [hlt] using h2
    obtain ⟨e, he, hb⟩ := List.any_eq_true.1 h2'
    rw [Bool.and_eq_true, beq_iff_eq] at hb
    exact ⟨e, by simpa using he, hb.1, hb.2⟩
  · rw [hd] at h3
    simp only [Bool.and_eq_true, decide_eq_true_eq] at h3
    refine ⟨h3.1, fun i oi hi hoi he => ?_⟩
    have := List.all_eq_true.1 h3.2 i (List.mem_range.2 hi)
    rw [hoi] at this
    simp [he] at this

set_option maxRecDepth 100000 in
theorem wp_region_told' {P : Program} {ops : Array Oper} {Q : Exit → Act → World → Prop} {a0 : Act} {w : World} {id : Nat} (hm : P.follows .mixedOrders = true) (ia : Nat) (row : Option Nat) (T : Nat → Value → World → Prop)
    (hfine : regFine ops ia a0.tmps.size = true)
    (hmono : ∀ (i : Nat) (v : Value) (w w' : World), T i v w → w.grownBy w' none → T i v w')
    (hmonoR : ∀ (i : Nat) (v : Value) (w w' : World), i < ia → T i v w → w.grownBy w' row → T i v w')
    (hstep : ∀ (i : Nat) (o : Oper), ops[i]? = some o → ∀ (a : Act) (w1 : World), w.drew.grownBy w1 row → (i = ia → w.drew.grownBy w1 none) → (∀ k, waits ops i k = true → a.eval (.tmp k) = a0.eval (.tmp k)) →
      (∀ k d, needs ops i k d = true → T k (a.eval (.tmp d)) w1) → StepsTo P ops Q o a w1 fun v w' => T i v w' ∧ w1.grownBy w' row ∧ (i ≠ ia → w1.grownBy w' none))
    (hend : ∀ (a : Act) (w1 : World), a.defers = a0.defers → a.tmps.size = a0.tmps.size → w.drew.grownBy w1 row → (∀ k, (∀ (j : Nat) (oj : Oper), ops[j]? = some oj → oj.dst ≠ some k) → a.eval (.tmp k) = a0.eval (.tmp k)) →
      (∀ (j : Nat) (oj : Oper) (d : Tmp), ops[j]? = some oj → oj.dst = some d → T j (a.eval (.tmp d)) w1) → Q .normal a w1) : (Code.region id ops true).wp P Q a0 w := by
  refine wp_region_told hm ia row T (fun i j oi oj d hi hj hdi hdj => ?_) (fun j oj ho => (regFine_at hfine ho).1) (fun i oi d ho hd => ((regFine_at hfine ho).2.2 d hd).1) hmono hmonoR (fun j oj ho => (regFine_at hfine ho).2.1) (fun i o ho a w1 _ hg hn hw ht => hstep i o ho a w1 hg hn hw fun k d hk => ?_) hend
  · rcases Nat.lt_trichotomy i j with h | h | h
    · exact absurd hdi (((regFine_at hfine hj).2.2 d hdj).2 i oi h hi)
    · exact h
    · exact absurd hdj (((regFine_at hfine hi).2.2 d hdi).2 j oj h hj)
  · unfold needs at hk
    rw [ho] at hk
    cases hok : ops[k]? with
    | none => rw [hok] at hk; cases hk
    | some ok =>
      rw [hok] at hk
      simp only [Bool.and_eq_true, beq_iff_eq] at hk
      obtain ⟨e, he, hb⟩ := List.any_eq_true.1 hk.1
      rw [Bool.and_eq_true, beq_iff_eq] at hb
      have := ht e (by simpa using he) hb.1 ok d (by rw [hb.2]; exact hok) hk.2
      rw [hb.2] at this; exact this

/-! ### steps -/
set_option maxRecDepth 100000 in
theorem StepsTo.of_run {P : Program} {ops : Array Oper} {Q : Exit → Act → World → Prop} {o : Oper} {a : Act} {w w' : World} {R : Value → World → Prop} {v : Value} (hg : o.guard = none) (h : (execOp a.eval o).run P w = .ok (.value v) w') (hR : R v w') : StepsTo P ops Q o a w R := by
  intro K hK
  rw [if_pos (by simp [Region.wanted, hg])]
  unfold Oper.wp
  rw [h]
  exact hK v w' hR
set_option maxRecDepth 100000 in
theorem StepsTo.move {P : Program} {ops : Array Oper} {Q : Exit → Act → World → Prop} {o : Oper} {a : Act} {w : World} {R : Value → World → Prop} (hg : o.guard = none) (x : Operand) (ho : o.op = .move x ∨ o.op = .assign x) (hR : R (a.eval x) w) : StepsTo P ops Q o a w R := by
  refine StepsTo.of_run (v := a.eval x) hg ?_ hR
  rcases ho with ho | ho <;> simp [execOp, ho]
set_option maxRecDepth 100000 in
theorem StepsTo.load {P : Program} {ops : Array Oper} {Q : Exit → Act → World → Prop} {o : Oper} {a : Act} {w : World} {R : Value → World → Prop} (hg : o.guard = none) (t : TypeId) (x : Operand) (ho : o.op = .load t x) (p : Addr) (hx : a.eval x = .pointer (some p)) {v : Value}
    (hrun : (Instr.loadAt t (.pointer (some p))).run P w = .ok v w) (hR : R v w) : StepsTo P ops Q o a w R := by
  refine StepsTo.of_run (v := v) hg ?_ hR
  simp [execOp, ho, hx, hrun, Result.andThen]

end Go.Proofs.Ytbfjihbkkcggmaa

/- As RegInv, of a region in which one operation may turn a block that another one of it made: what is told of an operation may speak of two slots that it waits for or writes. Nothing of the program. -/
namespace Go.Proofs.Ytbfjihbkkcggmaa
open Go

def sees (ops : Array Oper) (j : Nat) (d : Tmp) : Bool := match ops[j]? with
  | none => false
  | some o => (o.dst == some d) || o.after.toList.any fun e => Region.binds .any e && match ops[e.on]? with
    | none => false
    | some oe => oe.dst == some d
def seesAll (ops : Array Oper) (sl : List (Tmp × Tmp)) : Bool := (List.range ops.size).all fun j => sees ops j (sl.getD j (0, 0)).1 && sees ops j (sl.getD j (0, 0)).2
/-- what stands in slot k behind a write of v into slot dst -/
def putv (dst : Option Tmp) (v : Value) (k : Tmp) (u : Value) : Value := cond (dst == some k) v u
set_option maxRecDepth 100000 in
theorem eval_putv {a : Act} {dst : Option Tmp} {v : Value} {k : Tmp} (h : ∀ d, dst = some d → d < a.tmps.size) : (a.put dst v).eval (.tmp k) = putv dst v k (a.eval (.tmp k)) := by
  unfold putv
  cases dst with
  | none => rfl
  | some d =>
    by_cases hk : d = k
    · subst hk
      rw [eval_same v (h d rfl)]; simp
    · rw [Act.eval_put (fun d' hd' e => by cases e; cases hd'; exact hk rfl)]
      have hb : (some d == some k) = false := by simpa using hk
      rw [hb]; rfl

structure Done2 (ops : Array Oper) (a0 a : Act) (L : Array Bool) (w : World) (sl : List (Tmp × Tmp)) (T : Nat → Value → Value → World → Prop) : Prop where
  size : L.size = ops.size
  defers : a.defers = a0.defers
  slots : a.tmps.size = a0.tmps.size
  closed : ∀ (j : Nat) (oj : Oper), ops[j]? = some oj → L.getD j true = true → ∀ e ∈ oj.after, Region.binds .any e = true → L.getD e.on false = true
  frame : ∀ k, (∀ (j : Nat) (oj : Oper), ops[j]? = some oj → oj.dst = some k → L.getD j true = false) → a.eval (.tmp k) = a0.eval (.tmp k)
  told : ∀ (j : Nat) (oj : Oper), ops[j]? = some oj → L.getD j true = true → T j (a.eval (.tmp (sl.getD j (0, 0)).1)) (a.eval (.tmp (sl.getD j (0, 0)).2)) w

set_option maxRecDepth 100000 in
theorem wpAny_told2 {P : Program} {ops : Array Oper} {Q : Exit → Act → World → Prop} {a0 : Act} (ia : Nat) (sl : List (Tmp × Tmp)) (T : Nat → Value → Value → World → Prop) (J : World → Prop) (Rr : Act → World → World → Prop) (hsl : seesAll ops sl = true)
    (hds : ∀ (i j : Nat) (oi oj : Oper) (d : Tmp), ops[i]? = some oi → ops[j]? = some oj → oi.dst = some d → oj.dst = some d → i = j)
    (hlow : ∀ (j : Nat) (oj : Oper), ops[j]? = some oj → ∀ e ∈ oj.after, Region.binds .any e = true → e.on < j)
    (hin : ∀ (i : Nat) (oi : Oper) (d : Tmp), ops[i]? = some oi → oi.dst = some d → d < a0.tmps.size)
    (hJ : ∀ w w', J w → w.grownBy w' none → J w') (hJR : ∀ a w w', J w → Rr a w w' → J w')
    (hmono : ∀ (i : Nat) (v u : Value) (w w' : World), T i v u w → w.grownBy w' none → T i v u w')
    (hmonoR : ∀ (i : Nat) (v u : Value) (a : Act) (w w' : World), i ≠ ia → T i v u w → Rr a w w' → T i v u w')
    (hstep : ∀ (i : Nat) (o : Oper), ops[i]? = some o → ∀ (a : Act) (w : World), a.tmps.size = a0.tmps.size → J w → (∀ k, waits ops i k = true → a.eval (.tmp k) = a0.eval (.tmp k)) →
      (∀ e ∈ o.after, Region.binds .any e = true → e.on < ops.size → T e.on (a.eval (.tmp (sl.getD e.on (0, 0)).1)) (a.eval (.tmp (sl.getD e.on (0, 0)).2)) w) →
      StepsTo P ops Q o a w fun v w' => T i (putv o.dst v (sl.getD i (0, 0)).1 (a.eval (.tmp (sl.getD i (0, 0)).1))) (putv o.dst v (sl.getD i (0, 0)).2 (a.eval (.tmp (sl.getD i (0, 0)).2))) w' ∧ (i = ia → Rr a w w') ∧ (i ≠ ia → w.grownBy w' none))
    (hend : ∀ (a : Act) (w : World), a.defers = a0.defers → a.tmps.size = a0.tmps.size → J w → (∀ k, (∀ (j : Nat) (oj : Oper), ops[j]? = some oj → oj.dst ≠ some k) → a.eval (.tmp k) = a0.eval (.tmp k)) →
      (∀ (j : Nat), j < ops.size → T j (a.eval (.tmp (sl.getD j (0, 0)).1)) (a.eval (.tmp (sl.getD j (0, 0)).2)) w) → Q .normal a w) :
    ∀ fuel L a w, (List.range ops.size).countP (fun i => !L.getD i true) ≤ fuel → Done2 ops a0 a L w sl T → J w → wpAny P .any ops Q fuel L a w := by
  have fin : ∀ L a w, Done2 ops a0 a L w sl T → J w → (∀ j, j < ops.size → L.getD j true = true) → Q .normal a w := by
    intro L a w hD hg hall
    have hl : ∀ (j : Nat) (oj : Oper), ops[j]? = some oj → L.getD j true = true := fun j oj ho => hall j (Array.getElem?_eq_some_iff.1 ho).1
    exact hend a w hD.defers hD.slots hg (fun k hk => hD.frame k fun j oj ho hd => absurd hd (hk j oj ho)) (fun j hj => hD.told j ops[j] (Array.getElem?_eq_getElem hj) (hl j ops[j] (Array.getElem?_eq_getElem hj)))
  have stuck : ∀ L : Array Bool, L.size = ops.size → Region.ready .any ops L = [] → ∀ j, j < ops.size → L.getD j true = true := by
    intro L hs hr j
    induction j using Nat.strongRecOn with
    | _ j ih =>
      intro hj
      cases hL : L.getD j true with
      | true => rfl
      | false =>
        have : j ∈ Region.ready .any ops L := mem_ready.2 ⟨hL, ops[j], Array.getElem?_eq_getElem hj, fun e he hb => by
          have hlt := hlow j ops[j] (Array.getElem?_eq_getElem hj) e he hb
          rw [getD_true (by omega) false true]
          exact ih e.on hlt (by omega)⟩
        rw [hr] at this; cases this
  have one : ∀ (L : Array Bool) (a : Act) (w : World), Done2 ops a0 a L w sl T → J w → ∀ i, i ∈ Region.ready .any ops L → ∀ K : Act → World → Prop,
      (∀ a' w', Done2 ops a0 a' (L.setIfInBounds i true) w' sl T → J w' → K a' w') → wpOp P ops Q i K a w := by
    intro L a w hD hg i hi K hK
    obtain ⟨hLi, o, ho, haf⟩ := mem_ready.1 hi
    have hio : i < ops.size := (Array.getElem?_eq_some_iff.1 ho).1
    have hiL : i < L.size := by rw [hD.size]; exact hio
    have hwait : ∀ k, waits ops i k = true → a.eval (.tmp k) = a0.eval (.tmp k) := by
      intro k hk
      refine hD.frame k fun j oj hoj hdj => ?_
      cases hLj : L.getD j true with
      | false => rfl
      | true =>
        unfold waits at hk
        rw [Array.all_eq_true_iff_forall_mem] at hk
        have hm : oj ∈ ops := Array.mem_of_getElem? hoj
        have h := hk oj hm
        rw [hdj] at h
        simp only [beq_self_eq_true, Bool.not_true, Bool.false_or] at h
        rw [← Array.any_toList, List.any_eq_true] at h
        obtain ⟨e, he', hb⟩ := h
        have he : e ∈ oj.after := by simpa using he'
        rw [Bool.and_eq_true, beq_iff_eq] at hb
        have := hD.closed j oj hoj hLj e he hb.1
        rw [hb.2, getD_true hiL false true, hLi] at this
        cases this
    have htold : ∀ e ∈ o.after, Region.binds .any e = true → e.on < ops.size → T e.on (a.eval (.tmp (sl.getD e.on (0, 0)).1)) (a.eval (.tmp (sl.getD e.on (0, 0)).2)) w := by
      intro e he hb hlt
      have h := haf e he hb
      rw [getD_true (by rw [hD.size]; exact hlt) false true] at h
      exact hD.told e.on _ (Array.getElem?_eq_getElem hlt) h
    have hind : ∀ d, o.dst = some d → d < a.tmps.size := fun d hd => by rw [hD.slots]; exact hin i o d ho hd
    have hseen : ∀ (j : Nat) (oj : Oper) (d : Tmp), ops[j]? = some oj → L.getD j true = true → j ≠ i → sees ops j d = true → o.dst ≠ some d := by
      intro j oj d hoj hLj hji hsd hod
      unfold sees at hsd
      rw [hoj] at hsd
      simp only [Bool.or_eq_true, beq_iff_eq] at hsd
      rcases hsd with hsd | hsd
      · exact hji (hds j i oj o d hoj ho hsd hod)
      · obtain ⟨e, he, hb⟩ := List.any_eq_true.1 hsd
        rw [Bool.and_eq_true] at hb
        cases hoe : ops[e.on]? with
        | none => rw [hoe] at hb; exact absurd hb.2 (by simp)
        | some oe =>
          rw [hoe] at hb
          have hde : oe.dst = some d := by simpa using hb.2
          have hei := hds e.on i oe o d hoe ho hde hod
          have h := hD.closed j oj hoj hLj e (by simpa using he) hb.1
          rw [hei, getD_true hiL false true, hLi] at h; cases h
    have hS := hstep i o ho a w hD.slots hg hwait htold K (fun v w' hR => by
      obtain ⟨hT, hgr, hgn⟩ := hR
      have hJ' : J w' := by
        by_cases hia : i = ia
        · exact hJR _ _ _ hg (hgr hia)
        · exact hJ _ _ hg (hgn hia)
      refine hK _ _ ⟨by simp [hD.size], ?_, ?_, ?_, ?_, ?_⟩ hJ'
      · cases o.dst <;> exact hD.defers
      · cases o.dst with
        | none => exact hD.slots
        | some d => simp [Act.put, hD.slots]
      · intro j oj hoj hLj e he hb
        by_cases hji : j = i
        · subst hji
          rw [ho] at hoj; cases hoj
          have h := haf e he hb
          by_cases hei : e.on = j
          · rw [hei, getD_true (by simpa using hiL) false true]
            simp [hiL]
          · rw [getD_set_ne false (fun h => hei h.symm)]; exact h
        · rw [getD_set_ne true (fun h => hji h.symm)] at hLj
          have h := hD.closed j oj hoj hLj e he hb
          by_cases hei : e.on = i
          · rw [hei, getD_true (by simpa using hiL) false true]
            simp [hiL]
          · rw [getD_set_ne false (fun h => hei h.symm)]; exact h
      · intro k hk
        have hne : ∀ d, o.dst = some d → Operand.tmp k ≠ .tmp d := fun d hd e => by
          cases e
          have := hk i o ho hd
          simp [hiL] at this
        rw [Act.eval_put hne]
        refine hD.frame k fun j oj hoj hdj => ?_
        have h := hk j oj hoj hdj
        by_cases hji : j = i
        · rw [hji]; exact hLi
        · rw [getD_set_ne true (fun h => hji h.symm)] at h; exact h
      · intro j oj hoj hLj
        by_cases hji : j = i
        · subst hji
          rw [eval_putv hind, eval_putv hind]; exact hT
        · rw [getD_set_ne true (fun h => hji h.symm)] at hLj
          have hj := (Array.getElem?_eq_some_iff.1 hoj).1
          have hs := List.all_eq_true.1 hsl j (List.mem_range.2 hj)
          rw [Bool.and_eq_true] at hs
          have n1 := hseen j oj _ hoj hLj hji hs.1
          have n2 := hseen j oj _ hoj hLj hji hs.2
          rw [Act.eval_put (fun d' hd' e => by cases e; exact n1 hd'), Act.eval_put (fun d' hd' e => by cases e; exact n2 hd')]
          have hT' := hD.told j oj hoj hLj
          by_cases hia : i = ia
          · exact hmonoR j _ _ a _ _ (fun e => hji (e.trans hia.symm)) hT' (hgr hia)
          · exact hmono j _ _ _ _ hT' (hgn hia))
    unfold wpOp
    rw [ho]
    simp only
    split
    · rename_i hw; rw [if_pos hw] at hS; exact .inl hS
    · rename_i hw; rw [if_neg hw] at hS; exact hS
  intro fuel
  induction fuel with
  | zero =>
    intro L a w hc hD hg
    have hall : ∀ j, j < ops.size → L.getD j true = true := fun j hj => by
      have := List.countP_eq_zero.1 (Nat.le_zero.1 hc) j (List.mem_range.2 hj)
      simpa using this
    refine ⟨?_, fin L a w hD hg hall⟩
    cases hr : Region.ready .any ops L with
    | nil => rfl
    | cons i rs =>
      have hi : i ∈ Region.ready .any ops L := by rw [hr]; simp
      obtain ⟨hLi, o, ho, _⟩ := mem_ready.1 hi
      rw [hall i (Array.getElem?_eq_some_iff.1 ho).1] at hLi; cases hLi
  | succ fuel ih =>
    intro L a w hc hD hg
    refine ⟨fun hr => fin L a w hD hg (stuck L hD.size hr), fun i hi => one L a w hD hg i hi _ fun a' w' hD' hg' => ih _ _ _ ?_ hD' hg'⟩
    obtain ⟨hLi, o, ho, _⟩ := mem_ready.1 hi
    have hio : i < ops.size := (Array.getElem?_eq_some_iff.1 ho).1
    have hiL : i < L.size := by rw [hD.size]; exact hio
    have := cnt_one (fun j => !L.getD j true) (fun j => !(L.setIfInBounds i true).getD j true) i (by rw [hLi]; rfl) (by simp [hiL]) (fun j hj => by rw [getD_set_ne true (fun h => hj h.symm)]) ops.size
    rw [if_pos hio] at this
    omega

/-- operation i waits for operation k -/
def after (ops : Array Oper) (i k : Nat) : Bool := match ops[i]? with
  | some oi => decide (k < ops.size) && oi.after.toList.any fun e => Region.binds .any e && e.on == k
  | none => false
def noDst2 (ops : Array Oper) (k : Tmp) : Bool := ops.toList.all fun o => !(o.dst == some k)
set_option maxRecDepth 100000 in
theorem act_lit2 (t : Array Value) {n : Nat} (h : t.size = n) : t = ((List.range n).map fun k => t.getD k undef).toArray := by
  subst h
  apply Array.ext
  · simp
  · intro i h1 h2
    simp [h1]

set_option maxRecDepth 100000 in
theorem wp_region_told2 {P : Program} {ops : Array Oper} {Q : Exit → Act → World → Prop} {a0 : Act} {w : World} {id : Nat} (hm : P.follows .mixedOrders = true) (ia : Nat) (sl : List (Tmp × Tmp)) (T : Nat → Value → Value → World → Prop) (J : World → Prop) (Rr : Act → World → World → Prop)
    (hfine : regFine ops ops.size a0.tmps.size = true) (hsl : seesAll ops sl = true) (hJ0 : J w.drew)
    (hJ : ∀ w w', J w → w.grownBy w' none → J w') (hJR : ∀ a w w', J w → Rr a w w' → J w')
    (hmono : ∀ (i : Nat) (v u : Value) (w w' : World), T i v u w → w.grownBy w' none → T i v u w')
    (hmonoR : ∀ (i : Nat) (v u : Value) (a : Act) (w w' : World), i ≠ ia → T i v u w → Rr a w w' → T i v u w')
    (hstep : ∀ (i : Nat) (o : Oper), ops[i]? = some o → ∀ (a : Act) (w1 : World), J w1 → (∀ k, waits ops i k = true → a.eval (.tmp k) = a0.eval (.tmp k)) →
      (∀ k, after ops i k = true → T k (a.eval (.tmp (sl.getD k (0, 0)).1)) (a.eval (.tmp (sl.getD k (0, 0)).2)) w1) →
      StepsTo P ops Q o a w1 fun v w' => T i (putv o.dst v (sl.getD i (0, 0)).1 (a.eval (.tmp (sl.getD i (0, 0)).1))) (putv o.dst v (sl.getD i (0, 0)).2 (a.eval (.tmp (sl.getD i (0, 0)).2))) w' ∧ (i = ia → Rr a w1 w') ∧ (i ≠ ia → w1.grownBy w' none))
    (hend : ∀ (tm : Array Value) (w1 : World), tm.size = a0.tmps.size → J w1 → (∀ k, noDst2 ops k = true → tm.getD k undef = a0.tmps.getD k undef) →
      (∀ j, j < ops.size → T j (tm.getD (sl.getD j (0, 0)).1 undef) (tm.getD (sl.getD j (0, 0)).2 undef) w1) → Q .normal ⟨tm, a0.defers⟩ w1) : (Code.region id ops true).wp P Q a0 w := by
  refine wp_region_any hm (wpAny_told2 ia sl T J Rr hsl (fun i j oi oj d hi hj hdi hdj => ?_) (fun j oj ho => (regFine_at hfine ho).1) (fun i oi d ho hd => ((regFine_at hfine ho).2.2 d hd).1) hJ hJR hmono hmonoR
    (fun i o ho a w1 _ hg hw ht => hstep i o ho a w1 hg hw fun k hk => ?_) (fun a w1 hdf hsz hg hfr hto => ?_) ops.size (Array.replicate ops.size false) a0 w.drew ?_ ⟨by simp, rfl, rfl, ?_, fun _ _ => rfl, ?_⟩ hJ0)
  · rcases Nat.lt_trichotomy i j with h | h | h
    · exact absurd hdi (((regFine_at hfine hj).2.2 d hdj).2 i oi h hi)
    · exact h
    · exact absurd hdj (((regFine_at hfine hi).2.2 d hdi).2 j oj h hj)
  · unfold after at hk
    rw [ho] at hk
    simp only [Bool.and_eq_true, decide_eq_true_eq] at hk
    obtain ⟨hks, hk⟩ := hk
    obtain ⟨e, he, hb⟩ := List.any_eq_true.1 hk
    rw [Bool.and_eq_true, beq_iff_eq] at hb
    have := ht e (by simpa using he) hb.1 (by rw [hb.2]; exact hks)
    rw [hb.2] at this; exact this
  · obtain ⟨tm, df⟩ := a
    obtain rfl : df = a0.defers := hdf
    refine hend tm w1 hsz hg (fun k hk => hfr k fun j oj hj hd => ?_) (fun j hj => hto j hj)
    unfold noDst2 at hk
    have := List.all_eq_true.1 hk oj (by simpa using Array.mem_of_getElem? hj)
    rw [hd] at this
    simp at this
  · exact Nat.le_trans List.countP_le_length (by simp)
  · intro j oj hoj h
    have hj := (Array.getElem?_eq_some_iff.1 hoj).1
    simp [hj] at h
  · intro j oj hoj h
    have hj := (Array.getElem?_eq_some_iff.1 hoj).1
    simp [hj] at h

end Go.Proofs.Ytbfjihbkkcggmaa

/- Steps of regions that draw: calls, by their contracts. -/
namespace Go.Proofs.Ytbfjihbkkcggmaa
open Go Go.RowKit

set_option maxRecDepth 100000 in
theorem StepsTo.enter {P : Program} {ops : Array Oper} {Q : Exit → Act → World → Prop} {o : Oper} {a : Act} {w : World} {R : Value → World → Prop} (hg : o.guard = none) (f : FuncId) (vs : Array Value) (hrun : (execOp a.eval o).run P w = .ok (.enter f vs) w)
    {C : Ending → World → Prop} (hc : Calls P f vs w C) (hR : ∀ e w', C e w' → ∃ v, e = .returned v ∧ R v w') : StepsTo P ops Q o a w R := by
  intro K hK
  rw [if_pos (by simp [Region.wanted, hg])]
  unfold Oper.wp
  rw [hrun, Oper.upon_enter]
  refine hc.mono ?_
  intro e w' h
  obtain ⟨v, rfl, hr⟩ := hR e w' h
  exact hK v w' hr
section
variable {o : Oper} {a : Act} {w : World} {ts : Array TypeId} {x : Operand} {v : Value}
end

/-- an index is taken as the program does it -/
def Idx (T : TypeId) : Prop := ∀ (b off n c k : Nat), k < n → ∀ w : World, (Instr.indexAt T (.slice (some ⟨b, off, none⟩) n c) (.int .i64 (k : Int))).run Try.prog w = .ok (.pointer (some ⟨b, off + k, none⟩)) w
set_option maxRecDepth 100000 in
theorem idx_costs : Idx 73 := by
  intro b off n c k hk w
  have hk' : (k : Int) < (n : Int) := by omega
  go_simp
set_option maxRecDepth 100000 in
theorem idx_fields : Idx 91 := by
  intro b off n c k hk w
  have hk' : (k : Int) < (n : Int) := by omega
  go_simp
/-- a cell is loaded as the program does it -/
def Ldd (T : TypeId) (v : Value) : Prop := ∀ (b off : Nat) (w : World), w.cell? ⟨b, off, none⟩ = some v → (Instr.loadAt T (.pointer (some ⟨b, off, none⟩))).run Try.prog w = .ok v w
set_option maxRecDepth 100000 in
theorem ldd_side (a : Option Addr) (n c : Nat) : Ldd 46 (.slice a n c) := by
  intro b off w hc
  go_simp
set_option maxRecDepth 100000 in
theorem ldd_field (a : Option Addr) (n c : Nat) : Ldd 29 (.slice a n c) := by
  intro b off w hc
  go_simp
set_option maxRecDepth 100000 in
theorem ldd_cost (z : Int) : Ldd 23 (.int .u64 z) := by
  intro b off w hc
  go_simp
set_option maxRecDepth 100000 in
theorem ldd_int (z : Int) : Ldd 3 (.int .i64 z) := by
  intro b off w hc
  go_simp

section
variable {ops : Array Oper} {Q : Exit → Act → World → Prop} {o : Oper} {a : Act} {w : World} {R : Value → World → Prop}
set_option maxRecDepth 100000 in
theorem steps_idx {T : TypeId} (hT : Idx T) (hg : o.guard = none) (s x : Operand) (ho : o.op = .indexAddr T s x) {b off n c k : Nat} (hs : a.eval s = .slice (some ⟨b, off, none⟩) n c) (hx : a.eval x = .int .i64 (k : Int)) (hk : k < n)
    (hR : R (.pointer (some ⟨b, off + k, none⟩)) w) : StepsTo Try.prog ops Q o a w R := by
  refine StepsTo.of_run hg ?_ hR
  simp [execOp, ho, hs, hx, hT b off n c k hk w, Result.andThen]
set_option maxRecDepth 100000 in
theorem steps_ldd {T : TypeId} {v : Value} (hT : Ldd T v) (hg : o.guard = none) (x : Operand) (ho : o.op = .load T x) {b off : Nat} (hx : a.eval x = .pointer (some ⟨b, off, none⟩)) (hc : w.cell? ⟨b, off, none⟩ = some v)
    (hR : R v w) : StepsTo Try.prog ops Q o a w R :=
  StepsTo.load hg T x ho ⟨b, off, none⟩ hx (hT b off w hc) hR
set_option maxRecDepth 100000 in
theorem steps_rule2 (hg : o.guard = none) (x y z : Operand) (ho : o.op = .build 54 #[(0, x), (1, y), (2, z)]) {xa ya : Option Addr} {n m c d : Nat} {C : Int} (hx : a.eval x = .slice xa n c) (hy : a.eval y = .slice ya m d) (hz : a.eval z = .int .u64 C)
    (hR : R (.agg #[.slice xa n c, .slice ya m d, .int .u64 C]) w) : StepsTo Try.prog ops Q o a w R := by
  have h : (Instr.build 54 #[(0, .slice xa n c), (1, .slice ya m d), (2, .int .u64 C)]).run Try.prog w = .ok (.agg #[.slice xa n c, .slice ya m d, .int .u64 C]) w := by go_simp
  refine StepsTo.of_run hg ?_ hR
  simp [execOp, ho, hx, hy, hz, h, Result.andThen]
end

end Go.Proofs.Ytbfjihbkkcggmaa

/- More steps of regions that draw: guarded ones, picks, comparisons, strings. -/
namespace Go.Proofs.Ytbfjihbkkcggmaa
open Go Go.RowKit

set_option maxRecDepth 100000 in
theorem StepsTo.guarded {P : Program} {ops : Array Oper} {Q : Exit → Act → World → Prop} {o : Oper} {a : Act} {w : World} {R : Value → World → Prop} (hw : Region.wanted o (yielded ops a.tmps) = true) (h : StepsTo P ops Q { o with guard := none } a w R) : StepsTo P ops Q o a w R := by
  intro K hK
  rw [if_pos hw]
  have := h K hK
  rw [if_pos (by simp [Region.wanted])] at this
  exact this
set_option maxRecDepth 100000 in
theorem StepsTo.passed {P : Program} {ops : Array Oper} {Q : Exit → Act → World → Prop} {o : Oper} {a : Act} {w : World} {R : Value → World → Prop} (hw : Region.wanted o (yielded ops a.tmps) = false) (h : R undef w) : StepsTo P ops Q o a w R := by
  intro K hK
  rw [if_neg (by rw [hw]; decide)]
  exact hK _ _ h
set_option maxRecDepth 100000 in
theorem yielded_of {ops : Array Oper} {a : Act} {j d : Nat} {b : Bool} (hd : (ops[j]?).bind (·.dst) = some d) (h : a.eval (.tmp d) = .bool b) : yielded ops a.tmps j = some b := by
  unfold yielded
  rw [hd]
  have h' : a.tmps.getD d undef = .bool b := h
  rw [Array.getD_eq_getD_getElem?] at h'
  cases ht : a.tmps[d]? with
  | none => rw [ht] at h'; exact absurd h' (by simp [undef])
  | some v =>
    rw [ht] at h'
    simp only [Option.getD_some] at h'
    subst h'
    simp [ht]
set_option maxRecDepth 100000 in
theorem wanted_of {ops : Array Oper} {o : Oper} {a : Act} {j d : Nat} {b : Bool} (hg : o.guard = some (j, b)) (hd : (ops[j]?).bind (·.dst) = some d) (h : a.eval (.tmp d) = .bool b) : Region.wanted o (yielded ops a.tmps) = true := by
  simp [Region.wanted, hg, yielded_of hd h]
set_option maxRecDepth 100000 in
theorem passed_of {ops : Array Oper} {o : Oper} {a : Act} {j d : Nat} {b c : Bool} (hg : o.guard = some (j, b)) (hd : (ops[j]?).bind (·.dst) = some d) (h : a.eval (.tmp d) = .bool c) (hne : c ≠ b) : Region.wanted o (yielded ops a.tmps) = false := by
  simp [Region.wanted, hg, yielded_of hd h, hne]
set_option maxRecDepth 100000 in
theorem StepsTo.load_row {P : Program} {ops : Array Oper} {Q : Exit → Act → World → Prop} {o : Oper} {a : Act} {w : World} {R : Value → World → Prop} (hg : o.guard = none) (ty : TypeId) (x : Operand) (ho : o.op = .load ty x) {g : Nat} (hx : a.eval x = .pointer (some ⟨g, 0, none⟩))
    {t : TypeId} {cs : Array Value} {fr : Nat × Nat} {d : TypeDesc} (hh : w.heap[g]? = some (.cells cs t fr)) (hu : P.underlying ty = some d) (hd : (match d with | .struct _ | .array _ _ => true | _ => false) = true) (hi : (P.info? ty).map (·.size) = some cs.size)
    (hR : R (.agg cs) w) : StepsTo P ops Q o a w R := by
  intro K hK
  rw [if_pos (by simp [Region.wanted, hg])]
  exact wp_load_row ty x ho g hx t cs fr d hh hu hd hi (hK _ _ hR)
set_option maxRecDepth 100000 in
theorem run_pick {P : Program} {o : Oper} {a : Act} {w : World} {c x y : Operand} {b : Bool} {u v : Value} (ho : o.op = .pick c x y) (hc : a.eval c = .bool b) (hx : a.eval x = u) (hy : a.eval y = v) : (execOp a.eval o).run P w = .ok (.value (cond b u v)) w := by
  subst hx hy
  simp only [execOp, ho, hc]
  cases b <;> go_simp
section
variable {o : Oper} {a : Act} {w : World} {x y : Operand}
set_option maxRecDepth 100000 in
theorem run_eqlE {m n : Int} (ho : o.op = .binOp .eql 32 x y 32) (hx : a.eval x = .int .i64 m) (hy : a.eval y = .int .i64 n) : (execOp a.eval o).run Try.prog w = .ok (.value (.bool (m == n))) w := by
  simp only [execOp, ho, hx, hy]
  go_simp
set_option maxRecDepth 100000 in
theorem run_neqE {m n : Int} (ho : o.op = .binOp .neq 32 x y 32) (hx : a.eval x = .int .i64 m) (hy : a.eval y = .int .i64 n) : (execOp a.eval o).run Try.prog w = .ok (.value (.bool (m != n))) w := by
  simp only [execOp, ho, hx, hy]
  go_simp
set_option maxRecDepth 100000 in
theorem run_eqlB {m n : Bool} (ho : o.op = .binOp .eql 4 x y 4) (hx : a.eval x = .bool m) (hy : a.eval y = .bool n) : (execOp a.eval o).run Try.prog w = .ok (.value (.bool (m == n))) w := by
  simp only [execOp, ho, hx, hy]
  go_simp
set_option maxRecDepth 100000 in
theorem run_eqlS {s : ByteArray} (ho : o.op = .binOp .eql 9 x y 9) (hx : a.eval x = .string s) (hy : a.eval y = .string s) : (execOp a.eval o).run Try.prog w = .ok (.value (.bool true)) w := by
  simp only [execOp, ho, hx, hy]
  go_simp
set_option maxRecDepth 100000 in
theorem run_addS {s t : ByteArray} (ho : o.op = .binOp .add 9 x y 9) (hx : a.eval x = .string s) (hy : a.eval y = .string t) (hl : s.size + t.size ≤ 9223372036854775807) : (execOp a.eval o).run Try.prog w = .ok (.value (.string (s ++ t))) w := by
  simp only [execOp, ho, hx, hy]
  go_simp
set_option maxRecDepth 100000 in
theorem run_notB {b : Bool} (ho : o.op = .unOp .not 4 x) (hx : a.eval x = .bool b) : (execOp a.eval o).run Try.prog w = .ok (.value (.bool (!b))) w := by
  simp only [execOp, ho, hx]
  go_simp
set_option maxRecDepth 100000 in
theorem run_str (ho : o.op = .convert 29 9 x) {p : Option Addr} {n c : Nat} {zs : List Int} (hx : a.eval x = .slice p n c) (hs : Sl .u8 w p n c zs) : (execOp a.eval o).run Try.prog w = .ok (.value (.string (strOfNums zs))) w := by
  simp [execOp, ho, hx, hs.str, Result.andThen]
end

end Go.Proofs.Ytbfjihbkkcggmaa
