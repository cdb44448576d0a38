import Derived.Test.YtbfjihbkkcggmaaImgTake
import Derived.Test.YtbfjihbkkcggmaaTrieApp
import Derived.Test.YtbfjihbkkcggmaaPackD
import Derived.Test.YtbfjihbkkcggmaaRuleApp
/- The document's takeState of layer 15. -/
namespace Go.Proofs.Ytbfjihbkkcggmaa
open Go.RowKit

set_option maxRecDepth 100000 in
theorem results_cell_row_tmp2 {P : Program} {fn : Func} {p u v : Tmp} {ty : TypeId} (h : fn.results = #[.cell p ty, .tmp u, .tmp v]) (tmps : Array Value) (w : World) (g : Nat) (t : TypeId) (cs : Array Value) (fr : Nat × Nat) (d : TypeDesc)
    (hp : tmps.getD p undef = .pointer (some ⟨g, 0, none⟩)) (hg : w.heap[g]? = some (.cells cs t fr))
    (hu : P.underlying ty = some d) (hd : (match d with | .struct _ | .array _ _ => true | _ => false) = true) (hi : (P.info? ty).map (·.size) = some cs.size) :
    (results fn tmps).run P w = .ok (.tuple #[.agg cs, tmps.getD u undef, tmps.getD v undef]) w := by
  have hp' : tmps[p]?.getD undef = .pointer (some ⟨g, 0, none⟩) := by simpa using hp
  simp [results, h, hp', asAddr, run_loadVar_row w g t ty cs fr d hg hu hd hi]

/-- a state, what is behind it, and whether there is one -/
def StateIs (B E : Nat) (w' : World) (e : Ending) (r : Tri.St × List Int × Bool) : Prop :=
  ∃ (x : Sw) (a : Option Addr) (n c : Nat), e = .returned (.tuple #[.agg #[x.f, x.s], .slice a n c, .bool r.2.2]) ∧ x.st = r.1 ∧ x.Good w' ∧ x.Front ∧ High E x.a x.n ∧ Sl .u8 w' a n c r.2.1 ∧ Low B a n

/-- how far a state's arcs are read -/
def ArcsAt (i : Int) (H : Nat) (b0 : List Int) (k : Nat) (p : Int) (pre : List (Int × Int)) (bb : List Int) (ok : Bool) : Prop :=
  pre.length = k ∧ (-1 ≤ p ∧ p ≤ 2000001 * (k : Int)) ∧ (∀ z ∈ pre, (0 ≤ z.1 ∧ z.1 ≤ 2000001 * (k : Int)) ∧ (i < z.2 ∧ z.2 ≤ i + 2000001)) ∧ Img.dArcs i H (-1) b0 = if ok = true then (pre ++ (Img.dArcs i (H - k) p bb).1, (Img.dArcs i (H - k) p bb).2.1, (Img.dArcs i (H - k) p bb).2.2) else (pre, bb, false)
set_option maxRecDepth 100000 in
theorem ArcsAt.next {i : Int} {H : Nat} {b0 : List Int} {k : Nat} {p : Int} {pre : List (Int × Int)} {bb : List Int} (h : ArcsAt i H b0 k p pre bb true) (hk : k < H) :
    ArcsAt i H b0 (k + 1) (p + 1 + ((Img.dTake bb).1 : Int)) (pre ++ [(p + 1 + ((Img.dTake bb).1 : Int), i + 1 + ((Img.dTake (Img.dTake bb).2.1).1 : Int))]) (Img.dTake (Img.dTake bb).2.1).2.1 ((Img.dTake bb).2.2 && (Img.dTake (Img.dTake bb).2.1).2.2) := by
  obtain ⟨h1, h2, h3, h4⟩ := h
  have e1 := Img.dTake_le bb
  have e2 := Img.dTake_le (Img.dTake bb).2.1
  refine ⟨by simp [h1], by omega, ?_, ?_⟩
  · intro z hz
    rcases List.mem_append.1 hz with hz | hz
    · have := h3 z hz; omega
    · simp only [List.mem_singleton] at hz
      subst hz
      simp only
      omega
  · rw [h4, if_pos rfl, show H - k = (H - (k + 1)) + 1 from by omega, Img.dArcs]
    cases (Img.dTake bb).2.2 <;> cases (Img.dTake (Img.dTake bb).2.1).2.2 <;> simp
set_option maxRecDepth 100000 in
theorem ArcsAt.done {i : Int} {H : Nat} {b0 : List Int} {k : Nat} {p : Int} {pre : List (Int × Int)} {bb : List Int} {ok : Bool} (h : ArcsAt i H b0 k p pre bb ok) (hk : k = H ∨ ok = false) : Img.dArcs i H (-1) b0 = (pre, bb, ok) := by
  obtain ⟨h1, h2, h3, h4⟩ := h
  rw [h4]
  cases ok with
  | false => rfl
  | true =>
    rcases hk with rfl | hk
    · rw [if_pos rfl, Nat.sub_self, Img.dArcs]; simp
    · cases hk

set_option maxRecDepth 100000 in
theorem info_st2 : (Try.prog.info? 49).map (·.size) = some 2 := by kernel_rfl

end Go.Proofs.Ytbfjihbkkcggmaa

/- The document's takeCosts of layer 15. -/
namespace Go.Proofs.Ytbfjihbkkcggmaa
open Go.RowKit

/-- the rows of costs lie in blocks from E on -/
def Cw.High (E : Nat) (c : Cw) : Prop := Go.Proofs.Ytbfjihbkkcggmaa.High E c.a c.n ∧ ∀ x ∈ c.xs, Go.Proofs.Ytbfjihbkkcggmaa.High E x.la x.ln ∧ Go.Proofs.Ytbfjihbkkcggmaa.High E x.ra x.rn
/-- costs, what is behind them, and whether they are there -/
def CostsIs (B E : Nat) (w' : World) (e : Ending) (r : File.Cst × List Int × Bool) : Prop :=
  ∃ (x : Cw) (a : Option Addr) (n c : Nat), e = .returned (.tuple #[x.v, .slice a n c, .bool r.2.2]) ∧ x.c = r.1 ∧ x.Good w' ∧ x.High E ∧ Sl .u8 w' a n c r.2.1 ∧ Low B a n

set_option maxRecDepth 100000 in
theorem Rs.high {w w' : World} {a : Option Addr} {n cap B : Nat} {xs : List Rw} (h : Rs w a n cap xs) (hh : Go.Proofs.Ytbfjihbkkcggmaa.High B a n) (hx : ∀ x ∈ xs, Go.Proofs.Ytbfjihbkkcggmaa.High B x.la x.ln ∧ Go.Proofs.Ytbfjihbkkcggmaa.High B x.ra x.rn) (hc : ∀ b, B ≤ b → b < w.heap.size → w'.heap[b]? = w.heap[b]?) : Rs w' a n cap xs := by
  obtain ⟨h1, h2, h3, h4, h5⟩ := h
  refine ⟨h1, h2, h3, fun x hxx => ⟨(h4 x hxx).1.high (hx x hxx).1 hc, (h4 x hxx).2.1.high (hx x hxx).2 hc, (h4 x hxx).2.2⟩, ?_⟩
  rcases h5 with h5 | ⟨b, off, ha, hcell⟩
  · exact .inl h5
  · rcases Nat.eq_zero_or_pos n with h0 | hp
    · exact .inl h0
    · refine .inr ⟨b, off, ha, fun i hi => ?_⟩
      rcases hh with hh | ⟨b', o', hb', hB⟩
      · omega
      · rw [ha] at hb'
        cases hb'
        obtain ⟨e1, e2, e3⟩ := hcell i hi
        have hlt := cell_lt e1
        refine ⟨?_, ?_, ?_⟩
        · rw [World.cell?] at e1 ⊢; rw [hc b hB hlt]; exact e1
        · rw [World.cell?] at e2 ⊢; rw [hc b hB hlt]; exact e2
        · rw [World.cell?] at e3 ⊢; rw [hc b hB hlt]; exact e3
set_option maxRecDepth 100000 in
theorem Cw.Good.high {w w' : World} {c : Cw} {B : Nat} (h : c.Good w) (hh : c.High B) (hc : ∀ b, B ≤ b → b < w.heap.size → w'.heap[b]? = w.heap[b]?) : c.Good w' := ⟨h.1.high hh.1 hh.2 hc, h.2⟩

/-- how far rules are read -/
def RulesAt (N : Nat) (b0 : List Int) (k : Nat) (pre : List Rul) (bb : List Int) (ok : Bool) : Prop :=
  pre.length = k ∧ Img.dRules N b0 = if ok = true then (pre ++ (Img.dRules (N - k) bb).1, (Img.dRules (N - k) bb).2.1, (Img.dRules (N - k) bb).2.2) else (pre, bb, false)
set_option maxRecDepth 100000 in
theorem RulesAt.next {N : Nat} {b0 : List Int} {k : Nat} {pre : List Rul} {bb : List Int} (h : RulesAt N b0 k pre bb true) (hk : k < N) : RulesAt N b0 (k + 1) (pre ++ [(Img.dRule bb).1]) (Img.dRule bb).2.1 (Img.dRule bb).2.2 := by
  obtain ⟨h1, h2⟩ := h
  refine ⟨by simp [h1], ?_⟩
  rw [h2, if_pos rfl, show N - k = (N - (k + 1)) + 1 from by omega, Img.dRules]
  cases (Img.dRule bb).2.2 <;> simp
set_option maxRecDepth 100000 in
theorem RulesAt.done {N : Nat} {b0 : List Int} {k : Nat} {pre : List Rul} {bb : List Int} {ok : Bool} (h : RulesAt N b0 k pre bb ok) (hk : k = N ∨ ok = false) : Img.dRules N b0 = (pre, bb, ok) := by
  obtain ⟨h1, h2⟩ := h
  rw [h2]
  cases ok with
  | false => rfl
  | true =>
    rcases hk with rfl | hk
    · rw [if_pos rfl, Nat.sub_self, Img.dRules]; simp
    · cases hk
set_option maxRecDepth 100000 in
theorem owns_frontR {w : World} {B : Nat} {T : TypeId} {v : Value} {n : Nat} {xs : List Rw} (h : w.ownsRow B T 3 v n (rcells xs)) : ∀ b, v.ownBlock = some b → xs ≠ [] → ∀ z : Int, w.cell? ⟨b, 0, none⟩ ≠ some (.int .i64 z) := by
  intro b hb hne z
  rcases h.2 with ⟨rfl, _⟩ | ⟨g, c, cur, rfl, _⟩
  · cases hb
  · have : g = b := by simpa [Value.ownBlock] using hb
    subst this
    cases xs with
    | nil => exact absurd rfl hne
    | cons x xs =>
      have hl := h.1
      rw [rcells_length, List.length_cons] at hl
      rw [h.cellAt 0 (by omega)]
      simp [rcells, Rw.cells, Rw.l]
set_option maxRecDepth 100000 in
theorem info_co5 : (Try.prog.info? 26).map (·.size) = some 5 := by kernel_rfl

end Go.Proofs.Ytbfjihbkkcggmaa

/- How much is read of bytes, and rows of states that lie high. -/
namespace Go.Proofs.Ytbfjihbkkcggmaa
open Go.RowKit

namespace Img
set_option maxRecDepth 100000 in
theorem take_len {M : Nat} {b r : List Int} {n : Nat} (h : take M b = some (n, r)) : r.length < b.length := by
  rw [take] at h
  split at h
  · rename_i n' r' h1
    split at h
    · cases h
      have := (Var.take_some h1).1
      have hp := Var.enc_pos n
      rw [this, List.length_append]; omega
    · cases h
  · cases h
set_option maxRecDepth 100000 in
theorem dTake_len (b : List Int) : (dTake b).2.1.length ≤ b.length := by
  unfold dTake
  split
  · rename_i n r h; have := take_len h; simp; omega
  · simp
set_option maxRecDepth 100000 in
theorem dCost_len (b : List Int) : (dCost b).2.1.length ≤ b.length ∧ ((dCost b).2.2 = true → (dCost b).2.1.length < b.length) := by
  unfold dCost
  split
  · rename_i n r h
    have h1 := (Var.take_some h).1
    have hp := Var.enc_pos n
    have : r.length < b.length := by rw [h1, List.length_append]; omega
    exact ⟨by simp; omega, fun _ => by simpa using this⟩
  · exact ⟨by simp, fun h => by cases h⟩
set_option maxRecDepth 100000 in
theorem dInts_len : ∀ (n : Nat) (b : List Int), (dInts n b).2.1.length ≤ b.length
  | 0, b => by simp [dInts]
  | n + 1, b => by
    have h1 := dTake_len b
    have h2 := dInts_len n (dTake b).2.1
    rw [dInts]
    split
    · simp only; omega
    · simp only; omega
set_option maxRecDepth 100000 in
theorem dSide_len (b : List Int) : (dSide b).2.1.length ≤ b.length := by
  have h1 := dTake_len b
  have h2 := dInts_len (dTake b).1 (dTake b).2.1
  rw [dSide]
  split
  · omega
  · simp
set_option maxRecDepth 100000 in
theorem dRule_len (b : List Int) : (dRule b).2.1.length ≤ b.length ∧ ((dRule b).2.2 = true → (dRule b).2.1.length < b.length) := by
  have h1 := dSide_len b
  have h2 := dSide_len (dSide b).2.1
  have h3 := dCost_len (dSide (dSide b).2.1).2.1
  rw [dRule]
  simp only [Bool.and_eq_true]
  exact ⟨by omega, fun h => by have := h3.2 h.2; omega⟩
set_option maxRecDepth 100000 in
/-- no more rules are read than there are bytes, and one -/
theorem dRules_few : ∀ (n : Nat) (b : List Int), (dRules n b).1.length ≤ b.length + 1
  | 0, b => by simp [dRules]
  | n + 1, b => by
    have h1 := dRule_len b
    have h2 := dRules_few n (dRule b).2.1
    rw [dRules]
    split
    · rename_i h
      have := h1.2 h
      simp only [List.length_cons]; omega
    · simp
set_option maxRecDepth 100000 in
theorem dFour_len : ∀ (n : Nat) (b : List Int), (dFour n b).2.1.length ≤ b.length
  | 0, b => by simp [dFour]
  | n + 1, b => by
    have h1 := (dCost_len b).1
    have h2 := dFour_len n (dCost b).2.1
    rw [dFour]; simp only; omega
set_option maxRecDepth 100000 in
theorem dCosts_few (b : List Int) : (dCosts b).1.rules.length ≤ b.length + 1 := by
  have h1 := dFour_len 4 b
  have h2 := dTake_len (dFour 4 b).2.1
  have h3 := dRules_few (dTake (dFour 4 b).2.1).1 (dTake (dFour 4 b).2.1).2.1
  rw [dCosts]
  split
  · simp only; omega
  · simp
set_option maxRecDepth 100000 in
theorem dArcs_len (i : Int) : ∀ (n : Nat) (p : Int) (b : List Int), (dArcs i n p b).2.1.length ≤ b.length
  | 0, p, b => by simp [dArcs]
  | n + 1, p, b => by
    have h1 := dTake_len b
    have h2 := dTake_len (dTake b).2.1
    have h3 := dArcs_len i n (p + 1 + ((dTake b).1 : Int)) (dTake (dTake b).2.1).2.1
    rw [dArcs]
    split
    · simp only; omega
    · simp only; omega
set_option maxRecDepth 100000 in
theorem dState_len (i : Int) (b : List Int) : (dState i b).2.1.length ≤ b.length := by
  have h1 := dTake_len b
  have h2 := dArcs_len i ((dTake b).1 / 2) (-1) (dTake b).2.1
  rw [dState]
  split
  · simp only; omega
  · simp
set_option maxRecDepth 100000 in
theorem dStates_len : ∀ (n : Nat) (i : Int) (b : List Int), (dStates n i b).2.1.length ≤ b.length
  | 0, i, b => by simp [dStates]
  | n + 1, i, b => by
    have h1 := dState_len i b
    have h2 := dStates_len n (i + 1) (dState i b).2.1
    rw [dStates]
    split
    · simp only; omega
    · simp only; omega
set_option maxRecDepth 100000 in
theorem dStatesOf_len (b : List Int) : (dStatesOf b).2.1.length ≤ b.length := by
  have h1 := dTake_len b
  have h2 := dStates_len (dTake b).1 0 (dTake b).2.1
  rw [dStatesOf]
  split
  · omega
  · simp
set_option maxRecDepth 100000 in
theorem body_few (b : List Int) : (dBody b).1.c.rules.length ≤ b.length + 1 := by
  have h1 := dStatesOf_len b
  have h2 := dCosts_few (dStatesOf b).2.1
  rw [dBody]
  simp only
  omega
end Img

set_option maxRecDepth 100000 in
theorem Ars.high {w w' : World} {a : Option Addr} {n cap B : Nat} {l : List (Int × Int)} (h : Ars w a n cap l) (hh : High B a n) (hc : ∀ b, B ≤ b → b < w.heap.size → w'.heap[b]? = w.heap[b]?) : Ars w' a n cap l := by
  obtain ⟨h1, h2, h3, h4, h5⟩ := h
  refine ⟨h1, h2, h3, h4, ?_⟩
  rcases h5 with h5 | ⟨b, off, ha, hcell⟩
  · exact .inl h5
  · rcases Nat.eq_zero_or_pos n with h0 | hp
    · exact .inl h0
    · refine .inr ⟨b, off, ha, fun i hi => ?_⟩
      rcases hh with hh | ⟨b', o', hb', hB⟩
      · omega
      · rw [ha] at hb'
        cases hb'
        obtain ⟨e1, e2⟩ := hcell i hi
        have hlt := cell_lt e1
        refine ⟨?_, ?_⟩
        · rw [World.cell?] at e1 ⊢; rw [hc b hB hlt]; exact e1
        · rw [World.cell?] at e2 ⊢; rw [hc b hB hlt]; exact e2
set_option maxRecDepth 100000 in
theorem Sw.Good.high {w w' : World} {x : Sw} {B : Nat} (h : x.Good w) (hh : High B x.a x.n) (hc : ∀ b, B ≤ b → b < w.heap.size → w'.heap[b]? = w.heap[b]?) : x.Good w' := Ars.high h hh hc
set_option maxRecDepth 100000 in
theorem Ss.high {w w' : World} {a : Option Addr} {n cap B : Nat} {xs : List Sw} (h : Ss w a n cap xs) (hh : High B a n) (hx : ∀ x ∈ xs, High B x.a x.n) (hc : ∀ b, B ≤ b → b < w.heap.size → w'.heap[b]? = w.heap[b]?) : Ss w' a n cap xs := by
  obtain ⟨h1, h2, h3, h4, h5⟩ := h
  refine ⟨h1, h2, h3, fun x hxx => (h4 x hxx).high (hx x hxx) hc, ?_⟩
  rcases h5 with h5 | ⟨b, off, ha, hcell⟩
  · exact .inl h5
  · rcases Nat.eq_zero_or_pos n with h0 | hp
    · exact .inl h0
    · refine .inr ⟨b, off, ha, fun i hi => ?_⟩
      rcases hh with hh | ⟨b', o', hb', hB⟩
      · omega
      · rw [ha] at hb'
        cases hb'
        obtain ⟨e1, e2⟩ := hcell i hi
        have hlt := cell_lt e1
        refine ⟨?_, ?_⟩
        · rw [World.cell?] at e1 ⊢; rw [hc b hB hlt]; exact e1
        · rw [World.cell?] at e2 ⊢; rw [hc b hB hlt]; exact e2

/-- how far states are read -/
def StatesAt (N : Nat) (b0 : List Int) (k : Nat) (pre : List Tri.St) (bb : List Int) (ok : Bool) : Prop :=
  pre.length = k ∧ Img.dStates N 0 b0 = if ok = true then (pre ++ (Img.dStates (N - k) (k : Int) bb).1, (Img.dStates (N - k) (k : Int) bb).2.1, (Img.dStates (N - k) (k : Int) bb).2.2) else (pre, bb, false)
set_option maxRecDepth 100000 in
theorem StatesAt.next {N : Nat} {b0 : List Int} {k : Nat} {pre : List Tri.St} {bb : List Int} (h : StatesAt N b0 k pre bb true) (hk : k < N) : StatesAt N b0 (k + 1) (pre ++ [(Img.dState (k : Int) bb).1]) (Img.dState (k : Int) bb).2.1 (Img.dState (k : Int) bb).2.2 := by
  obtain ⟨h1, h2⟩ := h
  refine ⟨by simp [h1], ?_⟩
  rw [h2, if_pos rfl, show N - k = (N - (k + 1)) + 1 from by omega, Img.dStates, Int.natCast_add, Int.natCast_one]
  cases (Img.dState (k : Int) bb).2.2 <;> simp
set_option maxRecDepth 100000 in
theorem StatesAt.done {N : Nat} {b0 : List Int} {k : Nat} {pre : List Tri.St} {bb : List Int} {ok : Bool} (h : StatesAt N b0 k pre bb ok) (hk : k = N ∨ ok = false) : Img.dStates N 0 b0 = (pre, bb, ok) := by
  obtain ⟨h1, h2⟩ := h
  rw [h2]
  cases ok with
  | false => rfl
  | true =>
    rcases hk with rfl | hk
    · rw [if_pos rfl, Nat.sub_self, Img.dStates]; simp
    · cases hk

end Go.Proofs.Ytbfjihbkkcggmaa
