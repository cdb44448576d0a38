import Derived.Shelf.Abstract
import Derived.Shelf.RegionOpen
import Derived.OwnWalkIn
import Derived.TacticsInMore
import Derived.LoopNIn
import Derived.LoopIn
import Derived.Test.YtimjdlbhbiklgaaIterLaw
import Derived.Test.YtimjdlbhbiklgaaPackF
import Derived.Test.YtimjdlbhbiklgaaPackK
import Derived.Test.YtimjdlbhbiklgaaPackB
import Derived.Deep.OwnRows
import Derived.Laws.CopyOwn
import Derived.Maps.OwnIn
import Derived.Maps.AppendAt
import Derived.IntWalk
/- The iterator over the parts of some bytes, which a function value tells apart: its contract. -/
namespace Go.Proofs.Ytimjdlbhbiklgaa
open Go.RowKit Go.Shelf
attribute [local go_sem] Oper.semAt_some

/-- the parts between the bytes that p names, the last one too -/
def partsA (p : Int → Bool) (cur : List Int) : List Int → List (List Int)
  | [] => [cur]
  | c :: cs => if p c then cur :: partsA p [] cs else partsA p (cur ++ [c]) cs

set_option maxRecDepth 100000 in
theorem partsA_at {p : Int → Bool} {b : List Int} {i f : Nat} (hfi : f ≤ i) (hi : i < b.length) :
    partsA p ((b.take i).drop f) (b.drop i) = if p (b[i]?.getD 0) then (b.take i).drop f :: partsA p ((b.take (i + 1)).drop (i + 1)) (b.drop (i + 1)) else partsA p ((b.take (i + 1)).drop f) (b.drop (i + 1)) := by
  have hd : b.drop i = b[i] :: b.drop (i + 1) := List.drop_eq_getElem_cons hi
  have hg : b[i]?.getD 0 = b[i] := by simp [hi]
  have ht : (b.take (i + 1)).drop f = (b.take i).drop f ++ [b[i]] := by
    rw [List.take_succ_eq_append_getElem hi, List.drop_append_of_le_length (by simp; omega)]
  have he : (b.take (i + 1)).drop (i + 1) = [] := List.drop_eq_nil_of_le (by simp; omega)
  rw [hd, partsA, hg, ht, he]

/-- a row of bytes that reads in the world W0, no longer than a million -/
abbrev Pc (W0 : World) := { x : Bd // x.Good W0 ∧ x.n ≤ 1000000 }

end Go.Proofs.Ytimjdlbhbiklgaa

/- The parts between some bytes, and what lines and fields are of them. -/
namespace Go.Proofs.Ytimjdlbhbiklgaa

set_option maxRecDepth 100000 in
theorem fieldsA_parts : ∀ (b cur : List Int), Line.fieldsA cur b = (partsA Line.isBlank cur b).filter (fun z => z ≠ [])
  | [], cur => by
    unfold Line.fieldsA partsA
    by_cases h : cur = [] <;> simp [h]
  | c :: cs, cur => by
    have ih1 := fieldsA_parts cs []
    have ih2 := fieldsA_parts cs (cur ++ [c])
    unfold Line.fieldsA partsA
    cases Line.isBlank c
    · simpa using ih2
    · by_cases h : cur = [] <;> simp [h, ih1]
set_option maxRecDepth 100000 in
theorem fields_parts (b : List Int) : (partsA Line.isBlank [] b).filter (fun z => z ≠ []) = Line.fields b := (fieldsA_parts b []).symm

/-- the last part only, if it is not empty -/
def trim (l : List (List Int)) : List (List Int) := if l.getLast? = some [] then l.dropLast else l
set_option maxRecDepth 100000 in
theorem partsA_ne (p : Int → Bool) : ∀ (b cur : List Int), partsA p cur b ≠ []
  | [], cur => by simp [partsA]
  | c :: cs, cur => by
    unfold partsA
    split
    · simp
    · exact partsA_ne p cs _
set_option maxRecDepth 100000 in
theorem trim_cons (x : List Int) {l : List (List Int)} (h : l ≠ []) : trim (x :: l) = x :: trim l := by
  cases l with
  | nil => exact absurd rfl h
  | cons y ys =>
    unfold trim
    rw [List.getLast?_cons_cons]
    split <;> simp
set_option maxRecDepth 100000 in
theorem splitA_parts : ∀ (b cur : List Int), Line.splitA cur b = trim (partsA (fun c => c == 10) cur b)
  | [], cur => by
    unfold Line.splitA partsA trim
    by_cases h : cur = [] <;> simp [h]
  | c :: cs, cur => by
    have ih1 := splitA_parts cs []
    have ih2 := splitA_parts cs (cur ++ [c])
    unfold Line.splitA partsA
    by_cases h : c = 10
    · simp only [h, if_true, beq_self_eq_true]
      rw [trim_cons _ (partsA_ne _ _ _), ih1]
    · have hb : (c == 10) = false := by simpa using h
      simp only [h, if_false, hb, Bool.false_eq_true]
      exact ih2
set_option maxRecDepth 100000 in
theorem split_parts (b : List Int) : trim (partsA (fun c => c == 10) [] b) = Line.split b := (splitA_parts b []).symm

end Go.Proofs.Ytimjdlbhbiklgaa

/- The iterator over the fields of a line: it ranges over the parts, and hands on those that hold a byte. -/
namespace Go.Proofs.Ytimjdlbhbiklgaa
open Go.RowKit Go.Shelf
attribute [local go_sem] Oper.semAt_some

/-- a row of bytes, some, that reads in the world W0, no longer than a million -/
abbrev Pn (W0 : World) := { x : Bd // (x.Good W0 ∧ x.n ≤ 1000000) ∧ x.zs ≠ [] }

set_option maxRecDepth 100000 in
theorem filter_take {α : Type} (p : α → Bool) (l : List α) (k : Nat) : ∃ m, (l.take k).filter p = (l.filter p).take m := by
  refine ⟨((l.take k).filter p).length, ?_⟩
  have h : l.filter p = (l.take k).filter p ++ (l.drop k).filter p := by rw [← List.filter_append, List.take_append_drop]
  rw [h, List.take_left]

/-- what stands between two rounds: those of the parts that hold a byte have been handed on; and where one of these has said 'no more' -/
def FieldsAt (W0 W : World) (l : Nat) (J : List (Pn W0) → (Nat → Prop) → World → Prop) (pre : List (Pc W0)) (U : Nat → Prop) (X : World) : Prop :=
  ∃ pre' : List (Pn W0), pre'.map (fun x : Pn W0 => x.1.zs) = (pre.map (fun x : Pc W0 => x.1.zs)).filter (fun z => z ≠ []) ∧ pre'.length ≤ pre.length ∧ J pre' U X ∧ X.cell? ⟨W.heap.size, 0, none⟩ = some (.func (.yield l) #[] #[]) ∧ ¬ U W.heap.size
def FieldsEnd (W0 : World) (Jx : List (Pn W0) → (Nat → Prop) → World → Prop) (c : Code) (pre : List (Pc W0)) (U : Nat → Prop) (X : World) : Prop :=
  c = .ret ∧ ∃ pre' : List (Pn W0), pre'.map (fun x : Pn W0 => x.1.zs) = (pre.map (fun x : Pc W0 => x.1.zs)).filter (fun z => z ≠ []) ∧ Jx pre' U X

end Go.Proofs.Ytimjdlbhbiklgaa

/- What an iterator gives, in memory of its own: the loop that lays each piece anew and collects them. -/
namespace Go.Proofs.Ytimjdlbhbiklgaa
open Go.RowKit Go.Shelf
attribute [local go_sem] Oper.semAt_some

set_option maxRecDepth 100000 in
/-- copy of a whole row into a new one, inside a fence -/
theorem wpListIn_copy_row {F : Fence} {n : Nat} {P : Program} {w : World} {ops : Array Oper} {rest : List Oper} {o : Oper} {a : Act} {Q : Exit → Act → World → Prop} (hgd : o.guard = none) (d s : Operand) (dT sT : TypeId)
    (ho : o.op = .call { callee := .builtin .copy, args := #[d, s], argTypes := #[dT, sT] }) (elem : TypeId) (hu : P.underlying dT = some (.slice elem)) (hsz : (P.info? elem).map (·.size) = some 1)
    (g m dCap sCap : Nat) (sp : Option Addr) (hd : a.eval d = .slice (some ⟨g, 0, none⟩) m dCap) (hs : a.eval s = .slice sp m sCap)
    (cur : List Value) (t : TypeId) (hg : w.heap[g]? = some (.cells cur.toArray t (0, 0))) (cs : List Value) (hn : cs.length = m) (hcur : cur.length = m)
    (hpos : 0 < m → ∃ ad, sp = some ad ∧ ∀ j v, cs[j]? = some v → w.cell? (ad.add j) = some v) (h1 : ∀ v ∈ cs, v.oneCell' = true) (B : Nat) (w0 : World) (hb : Below B w0 w) (hBg : B ≤ g)
    (h : ∀ w', w'.heap[g]? = some (.cells cs.toArray t (0, 0)) → Below B w0 w' → w.heap.size ≤ w'.heap.size → wpListIn F n P ops Q rest (a.put o.dst (goInt cs.length)) w') :
    wpListIn F n P ops Q (o :: rest) a w := by
  refine wpListIn_plain hgd fun K hK => ?_
  unfold Oper.wpIn
  refine ⟨by simp [Oper.about, ho, resolve, Target.leads, Sem.run_pure], ?_⟩
  rw [Oper.semAt_plain F _ _ (by rw [ho]; intro c hc'; cases hc')]
  by_cases h0 : m = 0
  · subst h0
    obtain rfl : cs = [] := List.eq_nil_of_length_eq_zero hn
    obtain rfl : cur = [] := List.eq_nil_of_length_eq_zero hcur
    have hrun := run_copy_none (P := P) w dT sT o.type elem (some ⟨g, 0, none⟩) sp 0 dCap 0 sCap hu hsz (by simp)
    simp [execOp, ho, resolve, invoke, builtin, hd, hs, hrun, Result.andThen]
    exact hK _ _ (h w hg hb (Nat.le_refl _))
  · obtain ⟨ad, rfl, hsrc⟩ := hpos (by omega)
    have hrun := run_copy_row (P := P) w dT sT o.type elem g 0 m dCap ad m sCap cur.toArray t cs hu hsz hg (by simpa using hn) hsrc (by simp; omega) h1
    simp [execOp, ho, resolve, invoke, builtin, hd, hs, hrun, Result.andThen]
    have h9 : cur.take 0 ++ cs ++ cur.drop (0 + cs.length) = cs := by simp [List.drop_eq_nil_of_le (show cur.length ≤ cs.length by omega)]
    refine hK _ _ (h _ ?_ (below_setRow hb hBg _) (by simp [World.setRow]))
    have h8 := setRow_heap w g cur.toArray cs.toArray t _ hg
    simpa [List.drop_eq_nil_of_le (show cur.length ≤ cs.length by omega)] using h8

/-- a row of bytes in a block of its own -/
def Bd.In (W : World) (x : Bd) : Prop :=
  ∃ b, x.a = some ⟨b, 0, none⟩ ∧ x.cap = x.n ∧ x.zs.length = x.n ∧ x.n ≤ maxLen ∧ (∀ z ∈ x.zs, (Lit.int .u8 z).wf = true) ∧ W.heap[b]? = some (.cells (x.zs.map (Value.int .u8)).toArray 5 (0, 0))
set_option maxRecDepth 100000 in
theorem Bd.In.good {W : World} {x : Bd} (h : x.In W) : x.Good W := by
  obtain ⟨b, h1, h2, h3, h4, h5, h6⟩ := h
  unfold Bd.Good
  rw [h1, h2]
  exact Sl.of_heap h6 h5 h3 h4
set_option maxRecDepth 100000 in
theorem Bd.In.kept {W W' : World} {x : Bd} {row : Option Nat} (h : x.In W) (hg : W.grownBy W' row) (hr : ∀ r, row = some r → ∀ cs fr, W.heap[r]? ≠ some (.cells cs 5 fr)) : x.In W' := by
  obtain ⟨b, h1, h2, h3, h4, h5, h6⟩ := h
  exact ⟨b, h1, h2, h3, h4, h5, (hg.block b (Array.getElem?_eq_some_iff.1 h6).1 (fun e => hr b e.symm _ _ h6)).trans h6⟩
set_option maxRecDepth 100000 in
theorem own_or (v : Value) : v.ownBlock = none ∨ v.ownBlock ≠ (none : Option Nat) := by
  cases v.ownBlock with
  | none => exact .inl rfl
  | some q => exact .inr (by simp)
set_option maxRecDepth 100000 in
theorem Boxed.below {W W' : World} {B : Nat} {t : TypeId} {v : Value} (h : Boxed W B t v) (hb : Below W.heap.size W W') : Boxed W' B t v := (hb.block B (Boxed.lt h)).trans h
set_option maxRecDepth 100000 in
theorem owned_not_u8 {W : World} {B : Nat} {v : Value} {k : Nat} {xs : List Value} (h : W.ownsRow B 60 1 v k xs) : ∀ r, v.ownBlock = some r → ∀ cs fr, W.heap[r]? ≠ some (.cells cs 5 fr) := by
  intro r e cs fr e2
  rcases h.2 with ⟨e1, _⟩ | ⟨g, cap, cur, e1, _, hgb, _⟩
  · rw [e1] at e; simp [Value.ownBlock] at e
  · rw [e1] at e
    obtain rfl : g = r := by simpa [Value.ownBlock] using e
    rw [hgb] at e2
    simp at e2

set_option maxRecDepth 100000 in
theorem Below.grownBy {W W' : World} (h : Below W.heap.size W W') : W.grownBy W' none := ⟨h.os, h.tape, h.output, h.size, fun k hk _ => h.block k hk⟩
set_option maxRecDepth 100000 in
theorem info_brow : (Try.prog.info? 60).map (fun i => (i.zero, i.size, i.bytes)) = some (some (.slice none 0 0), 1, 24) := by kernel_rfl

set_option maxRecDepth 100000 in
theorem Bd.In.keep {S : Nat → Prop} {W W' : World} {x : Bd} (h : x.In W) (hk : Keep S W W') (hs : ∀ b, x.a = some ⟨b, 0, none⟩ → S b) : x.In W' := by
  obtain ⟨b, h1, h2, h3, h4, h5, h6⟩ := h
  exact ⟨b, h1, h2, h3, h4, h5, hk.heap h6 (hs b h1)⟩
set_option maxRecDepth 100000 in
theorem ownsRow_keep {S : Nat → Prop} {W W' : World} {base : Nat} {e : TypeId} {size : Nat} {v : Value} {k : Nat} {xs : List Value} (h : W.ownsRow base e size v k xs) (hk : Keep S W W') (hs : ∀ r, v.ownBlock = some r → S r) : W'.ownsRow base e size v k xs := by
  refine ⟨h.1, ?_⟩
  rcases h.2 with hn | ⟨g, cap, cur, rfl, hb, hgg, rest⟩
  · exact .inl hn
  · exact .inr ⟨g, cap, cur, rfl, hb, hk.heap hgg (hs g rfl), rest⟩

/-- rows that a call answers, each in a block of its own -/
def RowsOwn (w w' : World) (e : Ending) (l : List (List Int)) : Prop :=
  ∃ a' m c' ys, e = .returned (.slice a' m c') ∧ Bs w' a' m c' ys ∧ bnums ys = l ∧ (a' = none → c' = 0) ∧ Below w.heap.size w w' ∧ ∀ y ∈ ys, ∃ b, y.a = some ⟨b, 0, none⟩
set_option maxRecDepth 100000 in
theorem RowsOwn.is {w w' : World} {e : Ending} {l : List (List Int)} (h : RowsOwn w w' e l) : RowsIs w w' e l := by
  obtain ⟨a', m, c', ys, h1, h2, h3, h4, h5, _⟩ := h
  exact ⟨a', m, c', ys, h1, h2, h3, h4, h5⟩
end Go.Proofs.Ytimjdlbhbiklgaa

/- Split, Fields, Bare: what they answer. -/
namespace Go.Proofs.Ytimjdlbhbiklgaa
open Go.RowKit Go.Shelf
attribute [local go_sem] Oper.semAt_some

set_option maxRecDepth 100000 in
theorem RowsIs.later {w w1 w' : World} {e : Ending} {l : List (List Int)} (h : RowsIs w1 w' e l) (hb : Below w.heap.size w w1) : RowsIs w w' e l := by
  obtain ⟨a', m, c', ys, h1, h2, h3, h4, h5⟩ := h
  exact ⟨a', m, c', ys, h1, h2, h3, h4, hb.trans (h5.mono hb.size)⟩

set_option maxRecDepth 100000 in
theorem trim_last {l : List (List Int)} {k : Nat} (h : l.length = k + 1) : trim l = if l.getD k [] = [] then l.take k else l := by
  unfold trim
  have h1 : l.getLast? = some (l.getD k []) := by
    rw [List.getLast?_eq_getElem?, List.getD_eq_getElem?_getD, h, Nat.add_sub_cancel]
    rw [List.getElem?_eq_getElem (by omega)]
    rfl
  rw [h1, List.dropLast_eq_take, h, Nat.add_sub_cancel]
  simp

set_option maxRecDepth 100000 in
theorem last_of {ys : List Bd} {l : List (List Int)} {m : Nat} (h1 : ys.length = m) (h2 : bnums ys = l) (h3 : l ≠ []) : ∃ k, m = k + 1 := by
  refine ⟨m - 1, ?_⟩
  have h := congrArg List.length h2
  rw [bnums_length, h1] at h
  have : 0 < l.length := List.length_pos_iff.2 h3
  omega

set_option maxRecDepth 100000 in
theorem bare_none {zs : List Int} (h : ([] : List (List Int)) = Line.fields zs) : Line.bare zs = true := by
  unfold Line.bare; rw [← h]
set_option maxRecDepth 100000 in
theorem bare_some {zs z : List Int} {k : Nat} (h : [z] = (Line.fields zs).take k) : Line.bare zs = (z.getD 0 0 == 35) := by
  unfold Line.bare
  cases hf : Line.fields zs with
  | nil => rw [hf] at h; simp at h
  | cons y ys =>
    rw [hf] at h
    cases k with
    | zero => simp at h
    | succ k => rw [List.take_succ_cons] at h; simp only [List.cons.injEq] at h; rw [h.1]

/-- Bare's loop: no field has come; and where the first has left it -/
def BareAt (w : World) (pre : List (Pn w)) (U : Nat → Prop) (X : World) : Prop :=
  pre = [] ∧ Boxed X w.heap.size 4 (.bool false) ∧ U w.heap.size ∧ Below w.heap.size w X ∧ w.heap.size + 1 ≤ X.heap.size
def BareEnd (w : World) (c : Code) (pre : List (Pn w)) (U : Nat → Prop) (X : World) : Prop :=
  c = .ret ∧ ∃ x, pre = [x] ∧ Boxed X w.heap.size 4 (.bool (x.1.zs.getD 0 0 == 35)) ∧ U w.heap.size ∧ Below w.heap.size w X ∧ w.heap.size + 1 ≤ X.heap.size

end Go.Proofs.Ytimjdlbhbiklgaa
