/- As RegInv, of a region in which one operation may turn a block that another one of it made: what is told of an operation may speak of two slots that it waits for or writes. Nothing of the program. -/
import Derived.Test.YtdeicfdbjmpliaaPackB
namespace Go.Proofs.Ytdeicfdbjmpliaa
open Go

def sees (ops : Array Oper) (j : Nat) (d : Tmp) : Bool := match ops[j]? with
  | none => false
  | some o => (o.dst == some d) || o.after.toList.any fun e => Region.binds .any e && match ops[e.on]? with
    | none => false
    | some oe => oe.dst == some d
def seesAll (ops : Array Oper) (sl : List (Tmp × Tmp)) : Bool := (List.range ops.size).all fun j => sees ops j (sl.getD j (0, 0)).1 && sees ops j (sl.getD j (0, 0)).2
/-- what stands in slot k behind a write of v into slot dst -/
def putv (dst : Option Tmp) (v : Value) (k : Tmp) (u : Value) : Value := cond (dst == some k) v u
set_option maxRecDepth 100000 in
theorem eval_putv {a : Act} {dst : Option Tmp} {v : Value} {k : Tmp} (h : ∀ d, dst = some d → d < a.tmps.size) : (a.put dst v).eval (.tmp k) = putv dst v k (a.eval (.tmp k)) := by
  unfold putv
  cases dst with
  | none => rfl
  | some d =>
    by_cases hk : d = k
    · subst hk
      rw [eval_same v (h d rfl)]; simp
    · rw [Act.eval_put (fun d' hd' e => by cases e; cases hd'; exact hk rfl)]
      have hb : (some d == some k) = false := by simpa using hk
      rw [hb]; rfl

structure Done2 (ops : Array Oper) (a0 a : Act) (L : Array Bool) (w : World) (sl : List (Tmp × Tmp)) (T : Nat → Value → Value → World → Prop) : Prop where
  size : L.size = ops.size
  defers : a.defers = a0.defers
  slots : a.tmps.size = a0.tmps.size
  closed : ∀ (j : Nat) (oj : Oper), ops[j]? = some oj → L.getD j true = true → ∀ e ∈ oj.after, Region.binds .any e = true → L.getD e.on false = true
  frame : ∀ k, (∀ (j : Nat) (oj : Oper), ops[j]? = some oj → oj.dst = some k → L.getD j true = false) → a.eval (.tmp k) = a0.eval (.tmp k)
  told : ∀ (j : Nat) (oj : Oper), ops[j]? = some oj → L.getD j true = true → T j (a.eval (.tmp (sl.getD j (0, 0)).1)) (a.eval (.tmp (sl.getD j (0, 0)).2)) w

set_option maxRecDepth 100000 in
theorem wpAny_told2 {P : Program} {ops : Array Oper} {Q : Exit → Act → World → Prop} {a0 : Act} (ia : Nat) (sl : List (Tmp × Tmp)) (T : Nat → Value → Value → World → Prop) (J : World → Prop) (Rr : Act → World → World → Prop) (hsl : seesAll ops sl = true)
    (hds : ∀ (i j : Nat) (oi oj : Oper) (d : Tmp), ops[i]? = some oi → ops[j]? = some oj → oi.dst = some d → oj.dst = some d → i = j)
    (hlow : ∀ (j : Nat) (oj : Oper), ops[j]? = some oj → ∀ e ∈ oj.after, Region.binds .any e = true → e.on < j)
    (hin : ∀ (i : Nat) (oi : Oper) (d : Tmp), ops[i]? = some oi → oi.dst = some d → d < a0.tmps.size)
    (hJ : ∀ w w', J w → w.grownBy w' none → J w') (hJR : ∀ a w w', J w → Rr a w w' → J w')
    (hmono : ∀ (i : Nat) (v u : Value) (w w' : World), T i v u w → w.grownBy w' none → T i v u w')
    (hmonoR : ∀ (i : Nat) (v u : Value) (a : Act) (w w' : World), i ≠ ia → T i v u w → Rr a w w' → T i v u w')
    (hstep : ∀ (i : Nat) (o : Oper), ops[i]? = some o → ∀ (a : Act) (w : World), a.tmps.size = a0.tmps.size → J w → (∀ k, waits ops i k = true → a.eval (.tmp k) = a0.eval (.tmp k)) →
      (∀ e ∈ o.after, Region.binds .any e = true → e.on < ops.size → T e.on (a.eval (.tmp (sl.getD e.on (0, 0)).1)) (a.eval (.tmp (sl.getD e.on (0, 0)).2)) w) →
      StepsTo P ops Q o a w fun v w' => T i (putv o.dst v (sl.getD i (0, 0)).1 (a.eval (.tmp (sl.getD i (0, 0)).1))) (putv o.dst v (sl.getD i (0, 0)).2 (a.eval (.tmp (sl.getD i (0, 0)).2))) w' ∧ (i = ia → Rr a w w') ∧ (i ≠ ia → w.grownBy w' none))
    (hend : ∀ (a : Act) (w : World), a.defers = a0.defers → a.tmps.size = a0.tmps.size → J w → (∀ k, (∀ (j : Nat) (oj : Oper), ops[j]? = some oj → oj.dst ≠ some k) → a.eval (.tmp k) = a0.eval (.tmp k)) →
      (∀ (j : Nat), j < ops.size → T j (a.eval (.tmp (sl.getD j (0, 0)).1)) (a.eval (.tmp (sl.getD j (0, 0)).2)) w) → Q .normal a w) :
    ∀ fuel L a w, (List.range ops.size).countP (fun i => !L.getD i true) ≤ fuel → Done2 ops a0 a L w sl T → J w → wpAny P .any ops Q fuel L a w := by
  have fin : ∀ L a w, Done2 ops a0 a L w sl T → J w → (∀ j, j < ops.size → L.getD j true = true) → Q .normal a w := by
    intro L a w hD hg hall
    have hl : ∀ (j : Nat) (oj : Oper), ops[j]? = some oj → L.getD j true = true := fun j oj ho => hall j (Array.getElem?_eq_some_iff.1 ho).1
    exact hend a w hD.defers hD.slots hg (fun k hk => hD.frame k fun j oj ho hd => absurd hd (hk j oj ho)) (fun j hj => hD.told j ops[j] (Array.getElem?_eq_getElem hj) (hl j ops[j] (Array.getElem?_eq_getElem hj)))
  have stuck : ∀ L : Array Bool, L.size = ops.size → Region.ready .any ops L = [] → ∀ j, j < ops.size → L.getD j true = true := by
    intro L hs hr j
    induction j using Nat.strongRecOn with
    | _ j ih =>
      intro hj
      cases hL : L.getD j true with
      | true => rfl
      | false =>
        have : j ∈ Region.ready .any ops L := mem_ready.2 ⟨hL, ops[j], Array.getElem?_eq_getElem hj, fun e he hb => by
          have hlt := hlow j ops[j] (Array.getElem?_eq_getElem hj) e he hb
          rw [getD_true (by omega) false true]
          exact ih e.on hlt (by omega)⟩
        rw [hr] at this; cases this
  have one : ∀ (L : Array Bool) (a : Act) (w : World), Done2 ops a0 a L w sl T → J w → ∀ i, i ∈ Region.ready .any ops L → ∀ K : Act → World → Prop,
      (∀ a' w', Done2 ops a0 a' (L.setIfInBounds i true) w' sl T → J w' → K a' w') → wpOp P ops Q i K a w := by
    intro L a w hD hg i hi K hK
    obtain ⟨hLi, o, ho, haf⟩ := mem_ready.1 hi
    have hio : i < ops.size := (Array.getElem?_eq_some_iff.1 ho).1
    have hiL : i < L.size := by rw [hD.size]; exact hio
    have hwait : ∀ k, waits ops i k = true → a.eval (.tmp k) = a0.eval (.tmp k) := by
      intro k hk
      refine hD.frame k fun j oj hoj hdj => ?_
      cases hLj : L.getD j true with
      | false => rfl
      | true =>
        unfold waits at hk
        rw [Array.all_eq_true_iff_forall_mem] at hk
        have hm : oj ∈ ops := Array.mem_of_getElem? hoj
        have h := hk oj hm
        rw [hdj] at h
        simp only [beq_self_eq_true, Bool.not_true, Bool.false_or] at h
        rw [← Array.any_toList, List.any_eq_true] at h
        obtain ⟨e, he', hb⟩ := h
        have he : e ∈ oj.after := by simpa using he'
        rw [Bool.and_eq_true, beq_iff_eq] at hb
        have := hD.closed j oj hoj hLj e he hb.1
        rw [hb.2, getD_true hiL false true, hLi] at this
        cases this
    have htold : ∀ e ∈ o.after, Region.binds .any e = true → e.on < ops.size → T e.on (a.eval (.tmp (sl.getD e.on (0, 0)).1)) (a.eval (.tmp (sl.getD e.on (0, 0)).2)) w := by
      intro e he hb hlt
      have h := haf e he hb
      rw [getD_true (by rw [hD.size]; exact hlt) false true] at h
      exact hD.told e.on _ (Array.getElem?_eq_getElem hlt) h
    have hind : ∀ d, o.dst = some d → d < a.tmps.size := fun d hd => by rw [hD.slots]; exact hin i o d ho hd
    have hseen : ∀ (j : Nat) (oj : Oper) (d : Tmp), ops[j]? = some oj → L.getD j true = true → j ≠ i → sees ops j d = true → o.dst ≠ some d := by
      intro j oj d hoj hLj hji hsd hod
      unfold sees at hsd
      rw [hoj] at hsd
      simp only [Bool.or_eq_true, beq_iff_eq] at hsd
      rcases hsd with hsd | hsd
      · exact hji (hds j i oj o d hoj ho hsd hod)
      · obtain ⟨e, he, hb⟩ := List.any_eq_true.1 hsd
        rw [Bool.and_eq_true] at hb
        cases hoe : ops[e.on]? with
        | none => rw [hoe] at hb; exact absurd hb.2 (by simp)
        | some oe =>
          rw [hoe] at hb
          have hde : oe.dst = some d := by simpa using hb.2
          have hei := hds e.on i oe o d hoe ho hde hod
          have h := hD.closed j oj hoj hLj e (by simpa using he) hb.1
          rw [hei, getD_true hiL false true, hLi] at h; cases h
    have hS := hstep i o ho a w hD.slots hg hwait htold K (fun v w' hR => by
      obtain ⟨hT, hgr, hgn⟩ := hR
      have hJ' : J w' := by
        by_cases hia : i = ia
        · exact hJR _ _ _ hg (hgr hia)
        · exact hJ _ _ hg (hgn hia)
      refine hK _ _ ⟨by simp [hD.size], ?_, ?_, ?_, ?_, ?_⟩ hJ'
      · cases o.dst <;> exact hD.defers
      · cases o.dst with
        | none => exact hD.slots
        | some d => simp [Act.put, hD.slots]
      · intro j oj hoj hLj e he hb
        by_cases hji : j = i
        · subst hji
          rw [ho] at hoj; cases hoj
          have h := haf e he hb
          by_cases hei : e.on = j
          · rw [hei, getD_true (by simpa using hiL) false true]
            simp [hiL]
          · rw [getD_set_ne false (fun h => hei h.symm)]; exact h
        · rw [getD_set_ne true (fun h => hji h.symm)] at hLj
          have h := hD.closed j oj hoj hLj e he hb
          by_cases hei : e.on = i
          · rw [hei, getD_true (by simpa using hiL) false true]
            simp [hiL]
          · rw [getD_set_ne false (fun h => hei h.symm)]; exact h
      · intro k hk
        have hne : ∀ d, o.dst = some d → Operand.tmp k ≠ .tmp d := fun d hd e => by
          cases e
          have := hk i o ho hd
          simp [hiL] at this
        rw [Act.eval_put hne]
        refine hD.frame k fun j oj hoj hdj => ?_
        have h := hk j oj hoj hdj
        by_cases hji : j = i
        · rw [hji]; exact hLi
        · rw [getD_set_ne true (fun h => hji h.symm)] at h; exact h
      · intro j oj hoj hLj
        by_cases hji : j = i
        · subst hji
          rw [eval_putv hind, eval_putv hind]; exact hT
        · rw [getD_set_ne true (fun h => hji h.symm)] at hLj
          have hj := (Array.getElem?_eq_some_iff.1 hoj).1
          have hs := List.all_eq_true.1 hsl j (List.mem_range.2 hj)
          rw [Bool.and_eq_true] at hs
          have n1 := hseen j oj _ hoj hLj hji hs.1
          have n2 := hseen j oj _ hoj hLj hji hs.2
          rw [Act.eval_put (fun d' hd' e => by cases e; exact n1 hd'), Act.eval_put (fun d' hd' e => by cases e; exact n2 hd')]
          have hT' := hD.told j oj hoj hLj
          by_cases hia : i = ia
          · exact hmonoR j _ _ a _ _ (fun e => hji (e.trans hia.symm)) hT' (hgr hia)
          · exact hmono j _ _ _ _ hT' (hgn hia))
    unfold wpOp
    rw [ho]
    simp only
    split
    · rename_i hw; rw [if_pos hw] at hS; exact .inl hS
    · rename_i hw; rw [if_neg hw] at hS; exact hS
  intro fuel
  induction fuel with
  | zero =>
    intro L a w hc hD hg
    have hall : ∀ j, j < ops.size → L.getD j true = true := fun j hj => by
      have := List.countP_eq_zero.1 (Nat.le_zero.1 hc) j (List.mem_range.2 hj)
      simpa using this
    refine ⟨?_, fin L a w hD hg hall⟩
    cases hr : Region.ready .any ops L with
    | nil => rfl
    | cons i rs =>
      have hi : i ∈ Region.ready .any ops L := by rw [hr]; simp
      obtain ⟨hLi, o, ho, _⟩ := mem_ready.1 hi
      rw [hall i (Array.getElem?_eq_some_iff.1 ho).1] at hLi; cases hLi
  | succ fuel ih =>
    intro L a w hc hD hg
    refine ⟨fun hr => fin L a w hD hg (stuck L hD.size hr), fun i hi => one L a w hD hg i hi _ fun a' w' hD' hg' => ih _ _ _ ?_ hD' hg'⟩
    obtain ⟨hLi, o, ho, _⟩ := mem_ready.1 hi
    have hio : i < ops.size := (Array.getElem?_eq_some_iff.1 ho).1
    have hiL : i < L.size := by rw [hD.size]; exact hio
    have := cnt_one (fun j => !L.getD j true) (fun j => !(L.setIfInBounds i true).getD j true) i (by rw [hLi]; rfl) (by simp [hiL]) (fun j hj => by rw [getD_set_ne true (fun h => hj h.symm)]) ops.size
    rw [if_pos hio] at this
    omega

/-- operation i waits for operation k -/
def after (ops : Array Oper) (i k : Nat) : Bool := match ops[i]? with
  | some oi => decide (k < ops.size) && oi.after.toList.any fun e => Region.binds .any e && e.on == k
  | none => false
def noDst2 (ops : Array Oper) (k : Tmp) : Bool := ops.toList.all fun o => !(o.dst == some k)
set_option maxRecDepth 100000 in
theorem act_lit2 (t : Array Value) {n : Nat} (h : t.size = n) : t = ((List.range n).map fun k => t.getD k undef).toArray := by
  subst h
  apply Array.ext
  · simp
  · intro i h1 h2
    simp [h1]

set_option maxRecDepth 100000 in
theorem wp_region_told2 {P : Program} {ops : Array Oper} {Q : Exit → Act → World → Prop} {a0 : Act} {w : World} {id : Nat} (hm : P.follows .mixedOrders = true) (ia : Nat) (sl : List (Tmp × Tmp)) (T : Nat → Value → Value → World → Prop) (J : World → Prop) (Rr : Act → World → World → Prop)
    (hfine : regFine ops ops.size a0.tmps.size = true) (hsl : seesAll ops sl = true) (hJ0 : J w.drew)
    (hJ : ∀ w w', J w → w.grownBy w' none → J w') (hJR : ∀ a w w', J w → Rr a w w' → J w')
    (hmono : ∀ (i : Nat) (v u : Value) (w w' : World), T i v u w → w.grownBy w' none → T i v u w')
    (hmonoR : ∀ (i : Nat) (v u : Value) (a : Act) (w w' : World), i ≠ ia → T i v u w → Rr a w w' → T i v u w')
    (hstep : ∀ (i : Nat) (o : Oper), ops[i]? = some o → ∀ (a : Act) (w1 : World), J w1 → (∀ k, waits ops i k = true → a.eval (.tmp k) = a0.eval (.tmp k)) →
      (∀ k, after ops i k = true → T k (a.eval (.tmp (sl.getD k (0, 0)).1)) (a.eval (.tmp (sl.getD k (0, 0)).2)) w1) →
      StepsTo P ops Q o a w1 fun v w' => T i (putv o.dst v (sl.getD i (0, 0)).1 (a.eval (.tmp (sl.getD i (0, 0)).1))) (putv o.dst v (sl.getD i (0, 0)).2 (a.eval (.tmp (sl.getD i (0, 0)).2))) w' ∧ (i = ia → Rr a w1 w') ∧ (i ≠ ia → w1.grownBy w' none))
    (hend : ∀ (tm : Array Value) (w1 : World), tm.size = a0.tmps.size → J w1 → (∀ k, noDst2 ops k = true → tm.getD k undef = a0.tmps.getD k undef) →
      (∀ j, j < ops.size → T j (tm.getD (sl.getD j (0, 0)).1 undef) (tm.getD (sl.getD j (0, 0)).2 undef) w1) → Q .normal ⟨tm, a0.defers⟩ w1) : (Code.region id ops true).wp P Q a0 w := by
  refine wp_region_any hm (wpAny_told2 ia sl T J Rr hsl (fun i j oi oj d hi hj hdi hdj => ?_) (fun j oj ho => (regFine_at hfine ho).1) (fun i oi d ho hd => ((regFine_at hfine ho).2.2 d hd).1) hJ hJR hmono hmonoR
    (fun i o ho a w1 _ hg hw ht => hstep i o ho a w1 hg hw fun k hk => ?_) (fun a w1 hdf hsz hg hfr hto => ?_) ops.size (Array.replicate ops.size false) a0 w.drew ?_ ⟨by simp, rfl, rfl, ?_, fun _ _ => rfl, ?_⟩ hJ0)
  · rcases Nat.lt_trichotomy i j with h | h | h
    · exact absurd hdi (((regFine_at hfine hj).2.2 d hdj).2 i oi h hi)
    · exact h
    · exact absurd hdj (((regFine_at hfine hi).2.2 d hdi).2 j oj h hj)
  · unfold after at hk
    rw [ho] at hk
    simp only [Bool.and_eq_true, decide_eq_true_eq] at hk
    obtain ⟨hks, hk⟩ := hk
    obtain ⟨e, he, hb⟩ := List.any_eq_true.1 hk
    rw [Bool.and_eq_true, beq_iff_eq] at hb
    have := ht e (by simpa using he) hb.1 (by rw [hb.2]; exact hks)
    rw [hb.2] at this; exact this
  · obtain ⟨tm, df⟩ := a
    obtain rfl : df = a0.defers := hdf
    refine hend tm w1 hsz hg (fun k hk => hfr k fun j oj hj hd => ?_) (fun j hj => hto j hj)
    unfold noDst2 at hk
    have := List.all_eq_true.1 hk oj (by simpa using Array.mem_of_getElem? hj)
    rw [hd] at this
    simp at this
  · exact Nat.le_trans List.countP_le_length (by simp)
  · intro j oj hoj h
    have hj := (Array.getElem?_eq_some_iff.1 hoj).1
    simp [hj] at h
  · intro j oj hoj h
    have hj := (Array.getElem?_eq_some_iff.1 hoj).1
    simp [hj] at h

end Go.Proofs.Ytdeicfdbjmpliaa
