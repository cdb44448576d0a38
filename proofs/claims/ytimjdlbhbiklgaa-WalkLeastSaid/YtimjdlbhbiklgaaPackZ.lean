import Derived.Test.YtimjdlbhbiklgaaPackA
import Derived.Test.YtimjdlbhbiklgaaTrieRefE
/- Used by the law. -/
namespace Go.Proofs.Ytimjdlbhbiklgaa
open Go.RowKit Tri Daw

noncomputable def dmade (ws : List (List Int)) : List St × Int := if (Wl.write ws).2 = 0 then (dmake ws, 0) else ([], (Wl.write ws).2)
theorem made_parts {ws : List (List Int)} : (made ws).2 = (Wl.write ws).2 ∧ ((Wl.write ws).2 = 0 → (made ws).1 = make ws) := by
  unfold made
  by_cases he : (Wl.write ws).2 = 0
  · rw [if_pos he]; exact ⟨he.symm, fun _ => rfl⟩
  · rw [if_neg he]; exact ⟨rfl, fun h => absurd h he⟩
end Go.Proofs.Ytimjdlbhbiklgaa

/- Used by the law. -/
namespace Go.Proofs.Ytimjdlbhbiklgaa
namespace Wlk
open Tri Daw

theorem made_good {ws : List (List Int)} (h : (Wl.write ws).2 = 0) : ws.length ≤ 300 ∧ Tri.Short ws ∧ Rise ws ∧ (∀ w ∈ ws, Utf.allGood w = true) := by
  rcases Wl.write_err ws with ⟨_, h1, h2, h3, _⟩ | ⟨h1, _⟩
  · exact ⟨h1, fun z hz => (Wl.fit_parts (h2 z hz)).2.1, h3, fun z hz => (Wl.fit_parts (h2 z hz)).2.2.1⟩
  · exact absurd h h1
theorem made_is {ws : List (List Int)} : ∃ gl, made ws = (gl, (Wl.write ws).2) ∧ ((Wl.write ws).2 = 0 → gl = make ws) :=
  ⟨(made ws).1, Prod.ext rfl made_parts.1, made_parts.2⟩
theorem dmade_is {ws : List (List Int)} : ∃ gl, dmade ws = (gl, (Wl.write ws).2) ∧ ((Wl.write ws).2 = 0 → gl = dmake ws) := by
  unfold dmade
  by_cases he : (Wl.write ws).2 = 0
  · rw [if_pos he]; exact ⟨_, Prod.ext rfl he.symm, fun _ => rfl⟩
  · rw [if_neg he]; exact ⟨_, rfl, fun h => absurd h he⟩
set_option maxRecDepth 100000 in
theorem has_make {ws : List (List Int)} (hs : Tri.Short ws) (w : List Int) : has (make ws) 0 w = decide (w ∈ ws) := by
  unfold has
  by_cases h : w ∈ begs ws
  · obtain ⟨k, hk, e⟩ := List.getElem_of_mem h
    rw [show ((0 : Nat) : Int) = 0 from rfl, (walk_make hs w).1 k hk e]
    simp only [Int.toNat_natCast]
    exact final_at hk e
  · rw [show ((0 : Nat) : Int) = 0 from rfl, (walk_make hs w).2 h]
    exact (decide_eq_false fun h' => h (word_begs hs h')).symm
set_option maxRecDepth 100000 in
theorem has_dmake {ws : List (List Int)} (hs : Tri.Short ws) (hr : Rise ws) (w : List Int) : has (dmake ws) 0 w = decide (w ∈ ws) := by
  unfold has
  by_cases h : w ∈ begs ws
  · rw [show ((0 : Nat) : Int) = 0 from rfl, (dwalk hs hr w).1 h]
    simp only [Int.toNat_natCast]
    exact dfinal h
  · rw [show ((0 : Nat) : Int) = 0 from rfl, (dwalk hs hr w).2 h]
    exact (decide_eq_false fun h' => h (word_begs hs h')).symm
set_option maxRecDepth 100000 in
theorem wds_of {l : List St} {ws : List (List Int)} (hc : check l = true) (hr : Rise ws) (h : ∀ w, has l 0 w = decide (w ∈ ws)) : wds l 0 = ws := by
  have h0 : 0 < l.length := by have := (check_size hc).1; omega
  refine rise_unique (wds_ris hc h0) hr fun x => ?_
  rw [mem_wds hc x h0, h x, decide_eq_true_eq]
structure Mds (l : List St) (ws : List (List Int)) : Prop where
  check : check l = true
  words : wordsC l = (ws, 0)
  many : manyC l = ws.length
  deep : deepC l = dp ws
  has : ∀ w, hasC l w = decide (w ∈ ws)
set_option maxRecDepth 100000 in
theorem mds_of {l : List St} {ws : List (List Int)} (hc : Tri.check l = true) (hr : Rise ws) (hl : ws.length ≤ 300) (h : ∀ w, Wlk.has l 0 w = decide (w ∈ ws)) : Mds l ws := by
  have e := wds_of hc hr h
  refine ⟨hc, ?_, ?_, ?_, fun w => ?_⟩
  · unfold wordsC; rw [if_neg (by rw [hc]; exact Bool.noConfusion), e, if_neg (by omega)]
  · unfold manyC mny; rw [if_pos hc, e]; omega
  · unfold deepC; rw [if_pos hc, e]
  · unfold hasC; rw [hc, h w]; rfl
theorem mds_make {ws : List (List Int)} (h : (Wl.write ws).2 = 0) : Mds (make ws) ws := by
  obtain ⟨h1, h2, h3, h4⟩ := made_good h
  exact mds_of (make_check h2 h4 h1) h3 h1 (has_make h2)
theorem mds_dmake {ws : List (List Int)} (h : (Wl.write ws).2 = 0) : Mds (dmake ws) ws := by
  obtain ⟨h1, h2, h3, h4⟩ := made_good h
  exact mds_of (dmake_check h2 h3 h4 h1) h3 h1 (has_dmake h2 h3)
theorem dp_take {ws : List (List Int)} {i : Nat} {z : List Int} (hi : i < ws.length) (hz : ws.getD i [] = z) : dp (ws.take (i + 1)) = max (dp (ws.take i)) (z.length : Int) := by
  have e : ws.take (i + 1) = ws.take i ++ [z] := by rw [List.take_succ_eq_append_getElem hi, ← hz]; simp [hi]
  rw [e, dp_app]
  have : dp [z] = (z.length : Int) := by rw [dp_cons, dp_nil]; omega
  rw [this]

end Wlk
end Go.Proofs.Ytimjdlbhbiklgaa

/- Used by the law. -/
namespace Go.Proofs.Ytimjdlbhbiklgaa
namespace Wlk
open Tri Daw

theorem write_some (ws : List (List Int)) (h : ws.length ≤ 300) : (Wl.write ws).2 = 0 ∨ (Wl.write ws).2 = 90 := by
  unfold Wl.write
  rw [if_neg (by omega)]
  split
  · exact .inl rfl
  · exact .inr rfl
theorem walk_app (l : List St) : ∀ (q x : List Int) (i : Int), walk l i (q ++ x) = match walk l i q with | some t => walk l t x | none => none
  | [], x, i => by simp [walk]
  | s :: q, x, i => by
    rw [List.cons_append, walk, walk]
    split
    · exact walk_app l q x _
    · rfl
theorem has_app {l : List St} (hc : check l = true) {q : List Int} {i : Nat} (h : walk l 0 q = some (i : Int)) (x : List Int) : has l 0 (q ++ x) = has l i x := by
  unfold has
  rw [show ((0 : Nat) : Int) = 0 from rfl, walk_app, h]
theorem walk_lt {l : List St} (hc : check l = true) {q : List Int} {t : Int} (h : walk l 0 q = some t) : ∃ i : Nat, t = (i : Int) ∧ i < l.length := by
  obtain ⟨h1, h2⟩ := walk_range hc q (i := 0) (by have := (check_size hc).1; omega) t h
  exact ⟨t.toNat, by omega, by omega⟩
theorem beg_walk {l : List St} (hc : check l = true) {q : List Int} (h : q = [] ∨ ∃ w ∈ wds l 0, q <+: w) : ∃ i : Nat, i < l.length ∧ walk l 0 q = some (i : Int) := by
  have h0 : 0 < l.length := by have := (check_size hc).1; omega
  rcases h with rfl | ⟨w, hw, x, rfl⟩
  · exact ⟨0, h0, rfl⟩
  · have h1 := (mem_wds hc _ h0).1 hw
    unfold has at h1
    rw [show ((0 : Nat) : Int) = 0 from rfl, walk_app] at h1
    cases hq : walk l 0 q with
    | none => rw [hq] at h1; cases h1
    | some t =>
      obtain ⟨i, rfl, hi⟩ := walk_lt hc hq
      exact ⟨i, hi, rfl⟩
theorem ends_wds {l : List St} (hc : check l = true) {q : List Int} {i : Nat} (hi : i < l.length) (h : walk l 0 q = some (i : Int)) : ends (wds l 0) q = wds l i := by
  have h0 : 0 < l.length := by omega
  refine rise_unique (ends_rise (wds_ris hc h0) q) (wds_ris hc hi) fun x => ?_
  rw [mem_ends, mem_wds hc _ h0, mem_wds hc _ hi, has_app hc h]
def at_ (l : List St) (q : List Int) : Nat := match walk l 0 q with | some t => t.toNat | none => 0
theorem nodup_le : ∀ (n : Nat) (l : List Nat), l.Nodup → (∀ x ∈ l, x < n) → l.length ≤ n
  | 0, l, _, h => by
    cases l with
    | nil => simp
    | cons x l => have := h x (by simp); omega
  | n + 1, l, hd, h => by
    have h1 := nodup_le n (l.erase n) (hd.erase n) fun x hx => by
      have h2 := h x (List.mem_of_mem_erase hx)
      have h3 : x ≠ n := fun e => by subst e; exact (List.Nodup.not_mem_erase hd) hx
      omega
    have := List.length_erase_le (a := n) (l := l)
    have h4 : l.length ≤ (l.erase n).length + 1 := by
      rw [List.length_erase]
      split <;> omega
    omega
theorem kinds_states {l : List St} (hc : check l = true) (hs : Tri.Short (wds l 0)) : (kinds (wds l 0)).length ≤ l.length := by
  have hf := kinds_facts (wds l 0)
  have hst : ∀ k ∈ kinds (wds l 0), ∃ i : Nat, i < l.length ∧ walk l 0 k.F = some (i : Int) := fun k hk => beg_walk hc ((mem_begs hs).1 (hf.2.1 k hk).1)
  have hn : ((kinds (wds l 0)).map fun k => at_ l k.F).Nodup := by
    unfold List.Nodup
    rw [List.pairwise_map]
    refine List.Pairwise.imp_of_mem ?_ hf.2.2.2
    intro a b ha hb hne e
    obtain ⟨i, hi, hwi⟩ := hst a ha
    obtain ⟨j, hj, hwj⟩ := hst b hb
    unfold at_ at e
    rw [hwi, hwj] at e
    simp only [Int.toNat_natCast] at e
    subst e
    refine hne ?_
    rw [(hf.2.1 a ha).2.1, (hf.2.1 b hb).2.1, ends_wds hc hi hwi, ends_wds hc hi hwj]
  have := nodup_le l.length _ hn fun x hx => by
    obtain ⟨k, hk, rfl⟩ := List.mem_map.1 hx
    obtain ⟨i, hi, hwi⟩ := hst k hk
    unfold at_
    rw [hwi]
    simpa using hi
  rwa [List.length_map] at this
def Used (l : List St) : Prop := (∀ i, i < l.length → i = 0 ∨ ∃ j, j < i ∧ ∃ a ∈ (l.getD j St.no).arcs, a.2 = (i : Int)) ∧ (∀ i, i < l.length → (l.getD i St.no).final = true ∨ ∃ a ∈ (l.getD i St.no).arcs, a.2.toNat < l.length ∧ (i : Int) < a.2)
theorem used_live {l : List St} (hc : check l = true) (hu : Used l) : ∀ (k i : Nat), i < l.length → l.length - i ≤ k → wds l i ≠ []
  | 0, i, hi, h => by omega
  | k + 1, i, hi, h => by
    rw [wds_at hc hi]
    rcases hu.2 i hi with h1 | ⟨a, ha, h1, h2⟩
    · rw [h1]; simp
    · have := used_live hc hu k a.2.toNat h1 (by omega)
      intro e
      rw [List.append_eq_nil_iff] at e
      have h3 := List.flatMap_eq_nil_iff.1 e.2 a ha
      rw [List.map_eq_nil_iff] at h3
      exact this h3
theorem used_led {l : List St} (hc : check l = true) (hu : Used l) : ∀ (i : Nat), i < l.length → ∃ q, walk l 0 q = some (i : Int) := by
  intro i
  induction i using Nat.strongRecOn with
  | ind i ih =>
    intro hi
    rcases hu.1 i hi with rfl | ⟨j, hj, a, ha, h1⟩
    · exact ⟨[], rfl⟩
    · obtain ⟨q, hq⟩ := ih j hj (by omega)
      refine ⟨q ++ [a.1], ?_⟩
      rw [walk_app, hq]
      simp only [walk, step_arc hc (show j < l.length by omega) ha, h1, if_true]
theorem arcs_unique : ∀ {a b : List (Int × Int)}, (a.Pairwise fun x y => x.1 < y.1) → (b.Pairwise fun x y => x.1 < y.1) → (∀ x, x ∈ a ↔ x ∈ b) → a = b
  | [], [], _, _, _ => rfl
  | [], y :: b, _, _, h => by have := (h y).2 (by simp); cases this
  | x :: a, [], _, _, h => by have := (h x).1 (by simp); cases this
  | x :: a, y :: b, ha, hb, h => by
    rw [List.pairwise_cons] at ha hb
    have e : x = y := by
      rcases List.mem_cons.1 ((h x).1 (by simp)) with h1 | h1
      · exact h1
      · rcases List.mem_cons.1 ((h y).2 (by simp)) with h2 | h2
        · exact h2.symm
        · have h3 := hb.1 x h1
          have h4 := ha.1 y h2
          omega
    subst e
    rw [arcs_unique ha.2 hb.2 fun z => ?_]
    constructor
    · intro hz
      rcases List.mem_cons.1 ((h z).1 (by simp [hz])) with h1 | h1
      · subst h1; have := ha.1 z hz; omega
      · exact h1
    · intro hz
      rcases List.mem_cons.1 ((h z).2 (by simp [hz])) with h1 | h1
      · subst h1; have := hb.1 z hz; omega
      · exact h1
theorem wds_alike {l : List St} (hc : check l = true) (hu : Used l) (hl : unlike l = true) : ∀ (k i j : Nat), i < l.length → j < l.length → (l.length - i) + (l.length - j) ≤ k → wds l i = wds l j → i = j
  | 0, i, j, hi, hj, h, e => by omega
  | k + 1, i, j, hi, hj, h, e => by
    have hm : ∀ w, has l i w = has l j w := fun w => by
      have h1 := mem_wds hc w hi
      have h2 := mem_wds hc w hj
      rw [e] at h1
      rw [Bool.eq_iff_iff, ← h1, h2]
    have hfin : (l.getD i St.no).final = (l.getD j St.no).final := by
      have := hm []
      unfold has walk at this
      simpa using this
    have half : ∀ i j, i < l.length → j < l.length → (∀ w, has l i w = has l j w) → (∀ t u : Nat, t < l.length → u < l.length → i < t → j < u → wds l t = wds l u → t = u) → ∀ a ∈ (l.getD i St.no).arcs, a ∈ (l.getD j St.no).arcs := by
      intro i j hi hj hm ih a ha
      obtain ⟨_, h2, h3⟩ := (check_arcs hc hi).1 a ha
      obtain ⟨w, hw⟩ := List.exists_mem_of_ne_nil _ (used_live hc hu _ a.2.toNat (by omega) (Nat.le_refl _))
      have hstep : ∀ w, has l i (a.1 :: w) = has l a.2.toNat w := fun w => by
        unfold has
        rw [walk, step_arc hc hi ha, if_pos rfl, show ((a.2.toNat : Nat) : Int) = a.2 by omega]
      have h4 : has l j (a.1 :: w) = true := by rw [← hm, hstep]; exact (mem_wds hc w (by omega)).1 hw
      have h5 : (Tri.step l (j : Int) a.1).2 = true := by
        unfold has at h4
        rw [walk] at h4
        cases hs : (Tri.step l (j : Int) a.1).2
        · rw [hs] at h4; simp at h4
        · rfl
      have hb := step_some hj h5
      obtain ⟨_, h6, h7⟩ := (check_arcs hc hj).1 _ hb
      simp only at h6 h7
      have hstep2 : ∀ w, has l j (a.1 :: w) = has l (Tri.step l (j : Int) a.1).1.toNat w := fun w => by
        unfold has
        rw [walk, if_pos h5, show (((Tri.step l (j : Int) a.1).1.toNat : Nat) : Int) = (Tri.step l (j : Int) a.1).1 by omega]
      have heq : a.2.toNat = (Tri.step l (j : Int) a.1).1.toNat := by
        refine ih _ _ (by omega) (by omega) (by omega) (by omega) ?_
        refine rise_unique (wds_ris hc (by omega)) (wds_ris hc (by omega)) fun w => ?_
        rw [mem_wds hc w (by omega), mem_wds hc w (by omega), ← hstep, ← hstep2, hm]
      have : a = (a.1, (Tri.step l (j : Int) a.1).1) := Prod.ext rfl (by simp only; omega)
      rw [this]; exact hb
    have harcs : (l.getD i St.no).arcs = (l.getD j St.no).arcs := by
      have h1 := half i j hi hj hm fun t u ht hu' h1 h2 e => wds_alike hc hu hl k t u ht hu' (by omega) e
      have h2 := half j i hj hi (fun w => (hm w).symm) fun t u ht hu' h1 h2 e => wds_alike hc hu hl k t u ht hu' (by omega) e
      exact arcs_unique (check_arcs hc hi).2 (check_arcs hc hj).2 fun a => ⟨h1 a, h2 a⟩
    have hsame : sameS (l.getD i St.no) (l.getD j St.no) = true := by unfold sameS; rw [hfin, harcs]; simp
    have hp := unlike_iff.1 hl
    rw [List.pairwise_iff_getElem] at hp
    have gi : l.getD i St.no = l[i] := by simp [hi]
    have gj : l.getD j St.no = l[j] := by simp [hj]
    rw [gi, gj] at hsame
    rcases Nat.lt_trichotomy i j with h1 | h1 | h1
    · rw [hp i j hi hj h1] at hsame; cases hsame
    · exact h1
    · have h2 := hp j i hj hi h1
      have : sameS l[i] l[j] = sameS l[j] l[i] := by unfold sameS; simp [eq_comm]
      rw [this, h2] at hsame; cases hsame
theorem states_kinds {l : List St} (hl : least l = true) (hu : Used l) (hs : Tri.Short (wds l 0)) : l.length ≤ (kinds (wds l 0)).length := by
  unfold least at hl
  rw [Bool.and_eq_true] at hl
  obtain ⟨hl, hc⟩ := hl
  have h0 : 0 < l.length := by have := (check_size hc).1; omega
  have hq : ∀ i, i < l.length → ∃ q, walk l 0 q = some (i : Int) ∧ q ∈ begs (wds l 0) := fun i hi => by
    obtain ⟨q, hq⟩ := used_led hc hu i hi
    refine ⟨q, hq, (begs_ends hs).2 (.inr ?_)⟩
    rw [ends_wds hc hi hq]
    exact used_live hc hu _ i hi (Nat.le_refl _)
  obtain ⟨Q, hQ⟩ : ∃ Q : Nat → List Int, ∀ i, i < l.length → walk l 0 (Q i) = some (i : Int) ∧ Q i ∈ begs (wds l 0) := by
    refine ⟨fun i => if h : i < l.length then (hq i h).choose else [], fun i hi => ?_⟩
    simp only [dif_pos hi]
    exact (hq i hi).choose_spec
  have hn : ((List.range l.length).map fun i => cls (wds l 0) (Q i)).Nodup := by
    unfold List.Nodup
    rw [List.pairwise_map]
    refine List.Pairwise.imp_of_mem ?_ (List.nodup_range (n := l.length))
    intro a b ha hb hne e
    rw [List.mem_range] at ha hb
    refine hne (wds_alike hc hu hl _ a b ha hb (Nat.le_refl _) ?_)
    rw [← ends_wds hc ha (hQ a ha).1, ← ends_wds hc hb (hQ b hb).1, ← (cls_spec (hQ a ha).2).2, ← (cls_spec (hQ b hb).2).2, e]
  have := nodup_le (kinds (wds l 0)).length _ hn fun x hx => by
    obtain ⟨i, hi, rfl⟩ := List.mem_map.1 hx
    exact (cls_spec (hQ i (List.mem_range.1 hi)).2).1
  simpa using this

end Wlk
end Go.Proofs.Ytimjdlbhbiklgaa
