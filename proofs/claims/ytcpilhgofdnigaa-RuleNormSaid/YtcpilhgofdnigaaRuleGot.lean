/- The key of a rule's two sides; what has been collected of a map of least costs, in whatever order. -/
import Derived.Maps.RangeWalk
import Derived.Maps.OwnSet
import Derived.Test.YtcpilhgofdnigaaGenMapCost
import Derived.Test.YtcpilhgofdnigaaRuleLeast
import Derived.Test.YtcpilhgofdnigaaRuleFit
namespace Go.Proofs.Ytcpilhgofdnigaa
open Go.RowKit Go.Maps Go.WideMaps

theorem laid_out : laidOutB Try.prog = true := by kernel_rfl
theorem keyed_sides : Keyed Try.prog 40 := Keyed.of_law (deep_law_laid laid_out (m := 4) (by omega) (by decide +kernel) (by kernel_rfl) (by kernel_rfl))
theorem zero_cost (w : World) : (zeroValue 24).run Try.prog w = .ok (.int .u64 0) w := by kernel_rfl

def keyR (r : Rul) : Lit := .string (keyBytes (litsI (sidesC true r)))
theorem goodL_wf {l : List Int} (h : goodL l = true) : WfI l := by
  unfold goodL at h
  rw [Bool.and_eq_true, List.all_eq_true] at h
  intro z hz
  have := h.1 z hz
  simp [Utf.good] at this
  exact WalkArith.wf_i64 (by omega)
theorem sidesC_ok {r : Rul} (h : chk r = true) : (sidesC true r).length = 18 ∧ WfI (sidesC true r) :=
  ⟨sidesC_length (fun _ => h), sidesC_wf (goodL_wf (chk_good h).1) (goodL_wf (chk_good h).2) (fun _ => h)⟩
theorem keyOf_rule {r : Rul} (h : chk r = true) : keyOf Try.prog 40 (.agg (cellsI (sidesC true r))) = some (keyR r) :=
  keyOf_18 _ (sidesC_ok h).1 (sidesC_ok h).2
theorem cellsI_inj : ∀ {l l' : List Int}, cellsI l = cellsI l' → l = l' := by
  intro l l' h
  unfold cellsI at h
  have h' : l.map (Value.int .i64) = l'.map (Value.int .i64) := by simpa using h
  clear h
  induction l generalizing l' with
  | nil => cases l' with
    | nil => rfl
    | cons _ _ => simp at h'
  | cons a l ih => cases l' with
    | nil => simp at h'
    | cons b l' =>
      simp only [List.map_cons, List.cons.injEq, Value.int.injEq, true_and] at h'
      rw [h'.1, ih h'.2]
theorem keyR_same {r s : Rul} (h : r.like s) : keyR r = keyR s := by
  unfold keyR sidesC
  rw [h.1, h.2]
theorem keyR_like {r s : Rul} (hr : chk r = true) (hs : chk s = true) (h : keyR r = keyR s) : r.like s := by
  have h1 := keyed_sides.inj (keyOf_rule hr) (by rw [h]; exact keyOf_rule hs)
  simp only [Value.agg.injEq] at h1
  have h2 := cellsI_inj h1
  unfold sidesC at h2
  rw [if_pos rfl, if_pos rfl] at h2
  have h3 := List.append_inj h2 (by rw [sideC_length _ _ (fun _ => goodL_short (chk_good hr).1), sideC_length _ _ (fun _ => goodL_short (chk_good hs).1)])
  exact ⟨sideC_inj (goodL_short (chk_good hr).1) (goodL_short (chk_good hs).1) h3.1, sideC_inj (goodL_short (chk_good hr).2) (goodL_short (chk_good hs).2) h3.2⟩
theorem keyR_key {r : Rul} (h : chk r = true) : WideAt.IsKeyLit (keyR r) := keyed_sides.key (keyOf_rule h)

theorem costAt_has {D : DataW Unit} {k : Lit} {c : Int} (h : costAt D k = some c) : has D k = true := by
  unfold costAt at h
  split at h
  · assumption
  · cases h
theorem costAt_of_at {D : DataW Unit} {k : Lit} {c : Int} (h : ∀ z, D.atKey k z = .lit (.int .u64 c)) : costAt D k = some c := costAt_some (has_true_of_atKey h) (h _)

theorem size_le {w : World} {b n : Nat} {R : Value → Option (DataW Unit × List MemPlace)} {D : DataW Unit} (h : w.ownsMap Try.prog 40 R b n D) : Maps.size D ≤ n := by
  obtain ⟨es, clock, _, _, hs, rfl⟩ := h
  show (List.foldr DataW.insert [] _).length ≤ n
  rw [length_sorted]; simpa using hs

/-- what has been collected where 'left' is still to come -/
def Got (D : DataW Unit) (left : Lit → Bool) (o : List Rul) : Prop :=
  (∀ s ∈ o, chk s = true ∧ costAt D (keyR s) = some s.C ∧ left (keyR s) = false) ∧
    (∀ k c, costAt D k = some c → left k = true ∨ ∃ s ∈ o, keyR s = k ∧ s.C = c) ∧ o.Pairwise fun a b => keyR a ≠ keyR b

theorem Got.start (D : DataW Unit) : Got D (has D) [] := ⟨by simp, fun _ _ h => .inl (costAt_has h), List.Pairwise.nil⟩
theorem Got.step {D : DataW Unit} {left : Lit → Bool} {o : List Rul} (h : Got D left o) {r : Rul} (hr : chk r = true) (hl : left (keyR r) = true) (hc : costAt D (keyR r) = some r.C) : Got D (fun z => left z && !z.sameKey (keyR r)) (o ++ [r]) := by
  obtain ⟨h1, h2, h3⟩ := h
  have hne : ∀ s ∈ o, keyR s ≠ keyR r := fun s hs e => by
    have := (h1 s hs).2.2
    rw [e, hl] at this; cases this
  refine ⟨fun s hs => ?_, fun k c hk => ?_, ?_⟩
  · rcases List.mem_append.1 hs with hs | hs
    · obtain ⟨a, b, c⟩ := h1 s hs
      exact ⟨a, b, by show (left _ && _) = false; rw [c]; rfl⟩
    · rw [List.mem_singleton.1 hs]
      refine ⟨hr, hc, ?_⟩
      show (left _ && !(keyR r).sameKey (keyR r)) = false
      rw [WideAt.sameKey_self (keyR_key hr)]; simp
  · rcases h2 k c hk with hk' | ⟨s, hs, h⟩
    · by_cases e : k.sameKey (keyR r) = true
      · have e' := WideAt.sameKey_eq e
        subst e'
        rw [hc] at hk
        exact .inr ⟨r, by simp, rfl, by simpa using hk⟩
      · left
        show (left k && !k.sameKey (keyR r)) = true
        rw [hk']; simpa using e
    · exact .inr ⟨s, List.mem_append.2 (.inl hs), h⟩
  · exact List.pairwise_append.2 ⟨h3, by simp, fun s hs t ht => by rw [List.mem_singleton.1 ht]; exact hne s hs⟩
/-- of all of it, sorted -/
theorem Got.norm {D : DataW Unit} {left : Lit → Bool} {o l ys : List Rul} (h : Got D left o) (hend : ∀ k, left k = false) (hD : Least keyR l (costAt D)) (hp : ys.Perm o) (hs : ys.Pairwise fun a b => lessS b a = false) : ys = nrm l := by
  refine (Least.norm hD (fun r s hr hs h => keyR_like hr hs h) (fun r s h => keyR_same h) (fun s hs => ⟨(h.1 s hs).1, (h.1 s hs).2.1⟩) (fun k c hk => ?_) h.2.2 hp hs).eq
  rcases h.2.1 k c hk with h' | h'
  · rw [hend k] at h'; cases h'
  · exact h'
/-- an entry that comes is a rule's -/
theorem Least.comes {D : DataW Unit} {l : List Rul} (hD : Least keyR l (costAt D)) {cs : Array Value} {kl : Lit} {c : Int} (hkey : keyOf Try.prog 40 (.agg cs) = some kl) (hat : ∀ z, D.atKey kl z = .lit (.int .u64 c)) :
    ∃ r, r ∈ l ∧ chk r = true ∧ keyR r = kl ∧ r.C = c ∧ cs = cellsI (sidesC true r) ∧ costAt D (keyR r) = some r.C := by
  have hc := costAt_of_at hat
  obtain ⟨r, hr, hk, e, hC⟩ := hD.1 kl c hc
  subst e hC
  have h1 := keyed_sides.inj hkey (keyOf_rule hk)
  simp only [Value.agg.injEq] at h1
  exact ⟨r, hr, hk, rfl, rfl, h1, hc⟩

theorem sides_inv (key : Value) (kl : Lit) (h : keyOf Try.prog 40 key = some kl) : ∃ x : Array Value, key = .agg x := by
  cases key <;> simp [keyOf, Try.underlying40, Value.formed] at h
  exact ⟨_, rfl⟩
theorem cost_inv (v : Value) (y : DataW Unit × List MemPlace) (h : plainElem Try.prog 24 v = some y) : ∃ c : Int, v = .int .u64 c := by
  obtain ⟨c, rfl, _⟩ := plainElem_int_inv Try.underlying24 h
  exact ⟨c, rfl⟩

end Go.Proofs.Ytcpilhgofdnigaa
