import Derived.Maps.Views
import Derived.Maps.Own
import Derived.Test.YtpcebfefbnpbpaaPackA
import Derived.Maps.RangeWalk
import Derived.Maps.OwnSet
import Derived.Test.YtpcebfefbnpbpaaPackG
import Derived.Test.YtpcebfefbnpbpaaPackB
import Derived.Deep.OwnRows
import Derived.Deep.Matrix
import Derived.Laws.CopyOwn
set_option linter.all false
set_option maxRecDepth 100000
set_option maxHeartbeats 12800000
namespace Go.Proofs.Ytpcebfefbnpbpaa
section
open Go.Maps Go.RowKit

/-- what the map holds at a key -/
def costAt {H : Type} (D : DataW H) (k : Lit) : Option Int :=
  if has D k = true then (match D.atKey k (.lit (.int .u64 0)) with | .lit (.int _ c) => some c | _ => none) else none
theorem costAt_some {H : Type} {D : DataW H} {k : Lit} {c : Int} (h : has D k = true) (ha : D.atKey k (.lit (.int .u64 0)) = .lit (.int .u64 c)) : costAt D k = some c := by
  unfold costAt; rw [if_pos h, ha]
theorem costAt_none {H : Type} {D : DataW H} {k : Lit} (h : has D k = false) : costAt D k = none := by
  unfold costAt; rw [if_neg (by rw [h]; decide)]
theorem costAt_empty {H : Type} (k : Lit) : costAt (.map [] : DataW H) k = none := costAt_none rfl
theorem costAt_put_same {H : Type} {D : DataW H} (hD : IsMap D) {k : Lit} (hk : WideAt.IsKeyLit k) (c : Int) : costAt (D.put k (.lit (.int .u64 c))) k = some c :=
  costAt_some (has_put_same hD hk _) (atKey_put_same hD hk _ _)
theorem costAt_put_other {H : Type} {D : DataW H} {k k' : Lit} (hne : k' ≠ k) (c : Int) : costAt (D.put k (.lit (.int .u64 c))) k' = costAt D k' := by
  unfold costAt; rw [has_put_other hne, atKey_put_other hne]

end
section

/-- m tells of each two sides of rules of l that may be the least cost that they have there -/
def Least {κ : Type} (key : Rul → κ) (l : List Rul) (m : κ → Option Int) : Prop :=
  (∀ k c, m k = some c → ∃ r ∈ l, chk r = true ∧ key r = k ∧ r.C = c) ∧ ∀ r ∈ l, chk r = true → ∃ c, m (key r) = some c ∧ c ≤ r.C

theorem Least.start {κ : Type} (key : Rul → κ) : Least key [] fun _ => none := ⟨fun _ _ h => (by cases h), (by simp)⟩
theorem Least.pass {κ : Type} {key : Rul → κ} {l : List Rul} {m : κ → Option Int} (h : Least key l m) {r : Rul} (hr : chk r = false) : Least key (l ++ [r]) m :=
  ⟨fun k c hk => by obtain ⟨s, hs, h'⟩ := h.1 k c hk; exact ⟨s, List.mem_append.2 (.inl hs), h'⟩, fun s hs hc => by
    rcases List.mem_append.1 hs with hs | hs
    · exact h.2 s hs hc
    · rw [List.mem_singleton.1 hs, hr] at hc; cases hc⟩
theorem Least.keep {κ : Type} {key : Rul → κ} {l : List Rul} {m : κ → Option Int} (h : Least key l m) {r : Rul} {c : Int} (hm : m (key r) = some c) (hc : c ≤ r.C) : Least key (l ++ [r]) m :=
  ⟨fun k c hk => by obtain ⟨s, hs, h'⟩ := h.1 k c hk; exact ⟨s, List.mem_append.2 (.inl hs), h'⟩, fun s hs hs' => by
    rcases List.mem_append.1 hs with hs | hs
    · exact h.2 s hs hs'
    · rw [List.mem_singleton.1 hs]; exact ⟨c, hm, hc⟩⟩
theorem Least.put {κ : Type} {key : Rul → κ} {l : List Rul} {m m' : κ → Option Int} (h : Least key l m) {r : Rul} (hr : chk r = true) (hlt : ∀ c, m (key r) = some c → r.C ≤ c) (h1 : m' (key r) = some r.C) (h2 : ∀ k, k ≠ key r → m' k = m k) : Least key (l ++ [r]) m' := by
  classical
  refine ⟨fun k c hk => ?_, fun s hs hc => ?_⟩
  · by_cases e : k = key r
    · subst e
      rw [h1] at hk
      exact ⟨r, by simp, hr, rfl, by simpa using hk⟩
    · rw [h2 k e] at hk
      obtain ⟨s, hs, h'⟩ := h.1 k c hk
      exact ⟨s, List.mem_append.2 (.inl hs), h'⟩
  · rcases List.mem_append.1 hs with hs | hs
    · obtain ⟨c, hm, hle⟩ := h.2 s hs hc
      by_cases e : key s = key r
      · rw [e] at hm ⊢
        exact ⟨r.C, h1, Int.le_trans (hlt c hm) hle⟩
      · exact ⟨c, by rw [h2 _ e]; exact hm, hle⟩
    · rw [List.mem_singleton.1 hs]; exact ⟨r.C, h1, Int.le_refl _⟩

/-- rules with unlike sides, put in order -/
theorem isNorm_sorted {l o ys : List Rul} (h1 : ∀ r ∈ o, r ∈ l ∧ chk r = true) (h2 : ∀ r ∈ l, chk r = true → ∃ s ∈ o, s.like r ∧ s.C ≤ r.C) (hd : o.Pairwise fun a b => ¬ a.like b) (hp : ys.Perm o) (hs : ys.Pairwise fun a b => lessS b a = false) : IsNorm l ys := by
  have hd' : ys.Pairwise fun a b => ¬ a.like b := (hp.pairwise_iff (fun {a b} h h' => h h'.symm)).2 hd
  refine ⟨?_, fun r hr => h1 r (hp.mem_iff.1 hr), fun r hr hc => ?_⟩
  · exact (hs.and hd').imp fun {a b} h => by
      cases hq : lessS a b with
      | true => rfl
      | false => exact absurd (lessS_total hq h.1) h.2
  · obtain ⟨s, hs', h⟩ := h2 r hr hc
    exact ⟨s, hp.mem_iff.2 hs', h⟩

/-- what is collected of such a map, and sorted, are the rules in order -/
theorem Least.norm {κ : Type} {key : Rul → κ} {l : List Rul} {m : κ → Option Int} (h : Least key l m) (hk : ∀ r s, chk r = true → chk s = true → key r = key s → r.like s) (hk' : ∀ r s : Rul, r.like s → key r = key s) {o ys : List Rul} (ho : ∀ s ∈ o, chk s = true ∧ m (key s) = some s.C) (ho' : ∀ k c, m k = some c → ∃ s ∈ o, key s = k ∧ s.C = c)
    (hd : o.Pairwise fun a b => key a ≠ key b) (hp : ys.Perm o) (hs : ys.Pairwise fun a b => lessS b a = false) : IsNorm l ys := by
  refine isNorm_sorted (fun r hr => ?_) (fun r hr hc => ?_) (hd.imp fun {a b} hne hl => hne (hk' a b hl)) hp hs
  · obtain ⟨hc, hm⟩ := ho r hr
    obtain ⟨s, hs, hsc, hsk, hsC⟩ := h.1 _ _ hm
    have hl := hk s r hsc hc hsk
    have : s = r := Rul.ext' hl.1 hl.2 hsC
    subst this; exact ⟨hs, hc⟩
  · obtain ⟨c, hm, hle⟩ := h.2 r hr hc
    obtain ⟨s, hs, hsk, hsC⟩ := ho' _ _ hm
    exact ⟨s, hs, hk s r (ho s hs).1 hc hsk, by omega⟩

end
section
open Go.RowKit Go.Maps Go.WideMaps

theorem laid_out : laidOutB Try.prog = true := by kernel_rfl
theorem keyed_sides : Keyed Try.prog 66 := Keyed.of_law (deep_law_laid laid_out (m := 4) (by omega) (by decide +kernel) (by kernel_rfl) (by kernel_rfl))
theorem zero_cost (w : World) : (zeroValue 22).run Try.prog w = .ok (.int .u64 0) w := by kernel_rfl

def keyR (r : Rul) : Lit := .string (keyBytes (litsI (sidesC true r)))
theorem goodL_wf {l : List Int} (h : goodL l = true) : WfI l := by
  unfold goodL at h
  rw [Bool.and_eq_true, List.all_eq_true] at h
  intro z hz
  have := h.1 z hz
  simp [Utf.good] at this
  exact WalkArith.wf_i64 (by omega)
theorem sidesC_ok {r : Rul} (h : chk r = true) : (sidesC true r).length = 18 ∧ WfI (sidesC true r) :=
  ⟨sidesC_length (fun _ => h), sidesC_wf (goodL_wf (chk_good h).1) (goodL_wf (chk_good h).2) (fun _ => h)⟩
theorem keyOf_rule {r : Rul} (h : chk r = true) : keyOf Try.prog 66 (.agg (cellsI (sidesC true r))) = some (keyR r) :=
  keyOf_18 _ (sidesC_ok h).1 (sidesC_ok h).2
theorem cellsI_inj : ∀ {l l' : List Int}, cellsI l = cellsI l' → l = l' := by
  intro l l' h
  unfold cellsI at h
  have h' : l.map (Value.int .i64) = l'.map (Value.int .i64) := by simpa using h
  clear h
  induction l generalizing l' with
  | nil => cases l' with
    | nil => rfl
    | cons _ _ => simp at h'
  | cons a l ih => cases l' with
    | nil => simp at h'
    | cons b l' =>
      simp only [List.map_cons, List.cons.injEq, Value.int.injEq, true_and] at h'
      rw [h'.1, ih h'.2]
theorem keyR_same {r s : Rul} (h : r.like s) : keyR r = keyR s := by
  unfold keyR sidesC
  rw [h.1, h.2]
theorem keyR_like {r s : Rul} (hr : chk r = true) (hs : chk s = true) (h : keyR r = keyR s) : r.like s := by
  have h1 := keyed_sides.inj (keyOf_rule hr) (by rw [h]; exact keyOf_rule hs)
  simp only [Value.agg.injEq] at h1
  have h2 := cellsI_inj h1
  unfold sidesC at h2
  rw [if_pos rfl, if_pos rfl] at h2
  have h3 := List.append_inj h2 (by rw [sideC_length _ _ (fun _ => goodL_short (chk_good hr).1), sideC_length _ _ (fun _ => goodL_short (chk_good hs).1)])
  exact ⟨sideC_inj (goodL_short (chk_good hr).1) (goodL_short (chk_good hs).1) h3.1, sideC_inj (goodL_short (chk_good hr).2) (goodL_short (chk_good hs).2) h3.2⟩
theorem keyR_key {r : Rul} (h : chk r = true) : WideAt.IsKeyLit (keyR r) := keyed_sides.key (keyOf_rule h)

theorem costAt_has {D : DataW Unit} {k : Lit} {c : Int} (h : costAt D k = some c) : has D k = true := by
  unfold costAt at h
  split at h
  · assumption
  · cases h
theorem costAt_of_at {D : DataW Unit} {k : Lit} {c : Int} (h : ∀ z, D.atKey k z = .lit (.int .u64 c)) : costAt D k = some c := costAt_some (has_true_of_atKey h) (h _)

theorem size_le {w : World} {b n : Nat} {R : Value → Option (DataW Unit × List MemPlace)} {D : DataW Unit} (h : w.ownsMap Try.prog 66 R b n D) : Maps.size D ≤ n := by
  obtain ⟨es, clock, _, _, hs, rfl⟩ := h
  show (List.foldr DataW.insert [] _).length ≤ n
  rw [length_sorted]; simpa using hs

/-- what has been collected where 'left' is still to come -/
def Got (D : DataW Unit) (left : Lit → Bool) (o : List Rul) : Prop :=
  (∀ s ∈ o, chk s = true ∧ costAt D (keyR s) = some s.C ∧ left (keyR s) = false) ∧
    (∀ k c, costAt D k = some c → left k = true ∨ ∃ s ∈ o, keyR s = k ∧ s.C = c) ∧ o.Pairwise fun a b => keyR a ≠ keyR b

theorem Got.start (D : DataW Unit) : Got D (has D) [] := ⟨by simp, fun _ _ h => .inl (costAt_has h), List.Pairwise.nil⟩
theorem Got.step {D : DataW Unit} {left : Lit → Bool} {o : List Rul} (h : Got D left o) {r : Rul} (hr : chk r = true) (hl : left (keyR r) = true) (hc : costAt D (keyR r) = some r.C) : Got D (fun z => left z && !z.sameKey (keyR r)) (o ++ [r]) := by
  obtain ⟨h1, h2, h3⟩ := h
  have hne : ∀ s ∈ o, keyR s ≠ keyR r := fun s hs e => by
    have := (h1 s hs).2.2
    rw [e, hl] at this; cases this
  refine ⟨fun s hs => ?_, fun k c hk => ?_, ?_⟩
  · rcases List.mem_append.1 hs with hs | hs
    · obtain ⟨a, b, c⟩ := h1 s hs
      exact ⟨a, b, by show (left _ && _) = false; rw [c]; rfl⟩
    · rw [List.mem_singleton.1 hs]
      refine ⟨hr, hc, ?_⟩
      show (left _ && !(keyR r).sameKey (keyR r)) = false
      rw [WideAt.sameKey_self (keyR_key hr)]; simp
  · rcases h2 k c hk with hk' | ⟨s, hs, h⟩
    · by_cases e : k.sameKey (keyR r) = true
      · have e' := WideAt.sameKey_eq e
        subst e'
        rw [hc] at hk
        exact .inr ⟨r, by simp, rfl, by simpa using hk⟩
      · left
        show (left k && !k.sameKey (keyR r)) = true
        rw [hk']; simpa using e
    · exact .inr ⟨s, List.mem_append.2 (.inl hs), h⟩
  · exact List.pairwise_append.2 ⟨h3, by simp, fun s hs t ht => by rw [List.mem_singleton.1 ht]; exact hne s hs⟩
/-- of all of it, sorted -/
theorem Got.norm {D : DataW Unit} {left : Lit → Bool} {o l ys : List Rul} (h : Got D left o) (hend : ∀ k, left k = false) (hD : Least keyR l (costAt D)) (hp : ys.Perm o) (hs : ys.Pairwise fun a b => lessS b a = false) : ys = nrm l := by
  refine (Least.norm hD (fun r s hr hs h => keyR_like hr hs h) (fun r s h => keyR_same h) (fun s hs => ⟨(h.1 s hs).1, (h.1 s hs).2.1⟩) (fun k c hk => ?_) h.2.2 hp hs).eq
  rcases h.2.1 k c hk with h' | h'
  · rw [hend k] at h'; cases h'
  · exact h'
/-- an entry that comes is a rule's -/
theorem Least.comes {D : DataW Unit} {l : List Rul} (hD : Least keyR l (costAt D)) {cs : Array Value} {kl : Lit} {c : Int} (hkey : keyOf Try.prog 66 (.agg cs) = some kl) (hat : ∀ z, D.atKey kl z = .lit (.int .u64 c)) :
    ∃ r, r ∈ l ∧ chk r = true ∧ keyR r = kl ∧ r.C = c ∧ cs = cellsI (sidesC true r) ∧ costAt D (keyR r) = some r.C := by
  have hc := costAt_of_at hat
  obtain ⟨r, hr, hk, e, hC⟩ := hD.1 kl c hc
  subst e hC
  have h1 := keyed_sides.inj hkey (keyOf_rule hk)
  simp only [Value.agg.injEq] at h1
  exact ⟨r, hr, hk, rfl, rfl, h1, hc⟩

theorem sides_inv (key : Value) (kl : Lit) (h : keyOf Try.prog 66 key = some kl) : ∃ x : Array Value, key = .agg x := by
  cases key <;> simp [keyOf, Try.underlying66, Value.formed] at h
  exact ⟨_, rfl⟩
theorem cost_inv (v : Value) (y : DataW Unit × List MemPlace) (h : plainElem Try.prog 22 v = some y) : ∃ c : Int, v = .int .u64 c := by
  obtain ⟨c, rfl, _⟩ := plainElem_int_inv Try.underlying22 h
  exact ⟨c, rfl⟩

end
section
open Go.RowKit Go.Deep

theorem info_intO : (Try.prog.info? 3).map (fun i => (i.zero, i.size, i.bytes)) = some (some (.int .i64 0), 1, 8) := by kernel_rfl
theorem size_intO : (Try.prog.info? 3).map (·.size) = some 1 := by kernel_rfl
theorem sideC_at {l : List Int} {j : Nat} (hj : j < l.length) : (sideC true l)[j]? = some l[j] := by
  unfold sideC; rw [if_pos rfl, List.append_assoc, List.getElem?_append_left hj, List.getElem?_eq_getElem hj]
theorem sideC_last {l : List Int} (h8 : l.length ≤ 8) : (sideC true l)[8]? = some (l.length : Int) := by
  unfold sideC
  have e : (l ++ List.replicate (8 - l.length) 0).length = 8 := by simp; omega
  rw [if_pos rfl, List.getElem?_append_right (by rw [e]; exact Nat.le_refl _), e]; rfl
theorem own_is (l : List Int) (w : World) (hw : WfI l) (h8 : l.length ≤ 8) :
    Calls Try.prog 45 #[.agg (cellsI (sideC true l))] w fun e w' => e = .returned (.slice (some ⟨w.heap.size + 1, 0, none⟩) l.length l.length) ∧ Sl .i64 w' (some ⟨w.heap.size + 1, 0, none⟩) l.length l.length l ∧ Below w.heap.size w w' ∧ w.heap.size + 2 ≤ w'.heap.size := by
  obtain ⟨n, hn⟩ : ∃ n, l.length = n := ⟨_, rfl⟩
  have hlast := sideC_last h8
  rw [hn] at h8 hlast ⊢
  have hmk := run_make_row' (P := Try.prog) 26 3 (.int .i64 0) 8 Try.underlying26 info_intO rfl .i64 .i64 n (by omega) (by omega)
  have h8c : (cellsI (sideC true l))[8]? = some (.int .i64 (n : Int)) := by
    show ((sideC true l).map (Value.int .i64)).toArray[8]? = _
    rw [List.getElem?_toArray, List.getElem?_map, hlast]; rfl
  obtain ⟨X, hX⟩ : ∃ X, X = l.map (Value.int .i64) := ⟨_, rfl⟩
  have hXl : X.length = n := by rw [hX, List.length_map, hn]
  have hpos : ∀ c : Array Value, ∃ ad, (some ⟨w.heap.size, 0, none⟩ : Option Addr) = some ad ∧ ∀ j v, X[j]? = some v → ((w.alloc (.cells (cellsI (sideC true l)) 64)).alloc (.cells c 3)).cell? (ad.add j) = some v := fun c => by
    refine ⟨_, rfl, fun j v hv => ?_⟩
    have hj : j < l.length := by
      rcases Nat.lt_or_ge j l.length with h | h
      · exact h
      · rw [hX] at hv; simp [List.getElem?_eq_none h] at hv
    have hadd : (⟨w.heap.size, 0, none⟩ : Addr).add j = ⟨w.heap.size, j, none⟩ := by unfold Addr.add; split <;> simp_all
    rw [hadd, cell_of_row _ _ _ _ _ _ (heap_alloc2_old w _ _)]
    show ((sideC true l).map (Value.int .i64)).toArray[j]? = _
    rw [List.getElem?_toArray, List.getElem?_map, sideC_at hj, ← hv, hX]
    simp [hj]
  have h1 : ∀ v ∈ X, v.oneCell' = true := by rw [hX]; exact ints_oneCell .i64 l
  have hg : ∀ c : Array Value, ((w.alloc (.cells (cellsI (sideC true l)) 64)).alloc (.cells c 3)).heap[w.heap.size + 1]? = some (.cells c.toList.toArray 3 (0, 0)) := fun c => by simpa using heap_alloc2_new w (.cells (cellsI (sideC true l)) 64) (.cells c 3)
  have hbw : ∀ c : Array Value, Below w.heap.size w ((w.alloc (.cells (cellsI (sideC true l)) 64)).alloc (.cells c 3)) := fun c => ((Below.refl _ w).alloc (Nat.le_refl _) _).alloc (by simp) _
  have HN := Lib.hid hn
  have HW := Lib.hid hw
  have HX := Lib.hid hX
  have HXL := Lib.hid hXl
  have HP := Lib.hid hpos
  have H1 := Lib.hid h1
  have HG := Lib.hid hg
  have HBW := Lib.hid hbw
  clear hn hw hX hXl hpos h1 hg hbw hlast
  go_enter Try.func45, Try.ntmps45
  go_wp2_with (refine wpList_copy_splice (o := ⟨some 10, _, _, _, _, _⟩) rfl (.tmp 7) (.tmp 9) 26 26 (by rfl) 3 Try.underlying26 size_intO _ _ _ _ _ _ (by rfl) (by rfl) (w.heap.size + 1) 0 (madeCells #[.int .i64 0] n).toList 3 (HG.out _) X (by rw [HXL.out]; exact (Nat.min_eq_right h8).symm) (fun _ => ⟨rfl, HP.out _⟩) (by rw [HXL.out]; simp [madeCells]) H1.out w.heap.size w (HBW.out _) (Nat.le_succ _) ?_; intro w2 HG2 hb2)
  go_ret
  have h2 := HG2.out
  have hlt := (Array.getElem?_eq_some_iff.1 h2).1
  rw [splice_all _ _ (by rw [HXL.out]; simp [madeCells]), HX.out] at h2
  exact ⟨rfl, Sl.of_heap h2 HW.out HN.out (by unfold maxLen; omega), hb2, by omega⟩

end
end Go.Proofs.Ytpcebfefbnpbpaa
