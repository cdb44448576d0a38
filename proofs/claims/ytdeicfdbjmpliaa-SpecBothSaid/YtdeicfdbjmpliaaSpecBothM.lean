/- The mathematics of SpecBoth: a class and a row of any signs, told both ways; a class of the signs in another order. Nothing of the program. -/
import Derived.Test.YtdeicfdbjmpliaaPackA
namespace Go.Proofs.Ytdeicfdbjmpliaa
namespace Spec

/-- a sign that SpecBoth lets through -/
def Fair (x : Int) : Prop := 32 < x ∧ x ≠ 95 ∧ x ≠ 124
set_option maxRecDepth 100000 in
theorem fair_plain {l : List Int} (h : ∀ x ∈ l, Fair x) : plain l = true := by
  unfold plain
  have h1 : ¬ l = [95] := fun e => (h 95 (by rw [e]; simp)).2.1 rfl
  simp only [h1, decide_false, Bool.not_false, Bool.and_true]
  rw [List.all_eq_true]
  intro x hx
  have := (h x hx).1
  simp only [Bool.and_eq_true, decide_eq_true_eq]
  omega
set_option maxRecDepth 100000 in
theorem fair_fit {a b c : Int} (ha : Fair a) (hb : Fair b) (ga : Utf.good a = true) (gb : Utf.good b = true) (hab : a ≠ b) (hc : c < 18446744073709551615) : fit ⟨[a], [b], c⟩ = true := by
  unfold fit chk goodL
  rw [fair_plain (l := [a]) (by simpa using ha), fair_plain (l := [b]) (by simpa using hb)]
  simp [ga, gb, hc, hab]
set_option maxRecDepth 100000 in
theorem fair_keys : ∀ {l : List Int} {row : Nat}, (∀ x ∈ l, Fair x) → row + l.length ≤ 12 → keysOk row l = true
  | [], _, _, _ => rfl
  | x :: l, row, h, hl => by
    have hx := h x (by simp)
    have := fair_keys (l := l) (row := row + 1) (fun y hy => h y (by simp [hy])) (by simp at hl; omega)
    rw [keysOk, if_neg hx.2.2, this]
    simp at hl
    simp [hx.2.1]; omega
/-- each rule is of two unlike signs, and there the other way, too -/
def Both (c : Int) (rs : List Rul) : Prop := ∀ r ∈ rs, ∃ a b, r = ⟨[a], [b], c⟩ ∧ fit r = true ∧ (⟨[b], [a], c⟩ : Rul) ∈ rs
set_option maxRecDepth 100000 in
theorem keysG_turn {c : Int} : ∀ {l : List Int} {row : Nat} {p a b : Int}, (⟨[a], [b], c⟩ : Rul) ∈ keysG c row p l → (⟨[b], [a], c⟩ : Rul) ∈ keysG c row p l
  | [], _, _, _, _, h => by simp [keysG] at h
  | x :: l, row, p, a, b, h => by
    rw [keysG] at h ⊢
    split at h
    case isTrue hx => rw [if_pos hx]; exact keysG_turn h
    case isFalse hx =>
      rw [if_neg hx]
      rcases List.mem_append.1 h with h | h
      · refine List.mem_append_left _ ?_
        split at h
        case isTrue hc =>
          rw [if_pos hc]
          simp [both] at h ⊢
          rcases h with ⟨rfl, rfl⟩ | ⟨rfl, rfl⟩
          · exact .inr ⟨rfl, rfl⟩
          · exact .inl ⟨rfl, rfl⟩
        case isFalse hc => cases h
      · exact List.mem_append_right _ (keysG_turn h)
set_option maxRecDepth 100000 in
theorem both_class {c : Int} {l : List Int} (h : ∀ x ∈ l, Fair x) (hg : Utf.allGood l = true) (hc : c < 18446744073709551615) : Both c (mapsG c l) := by
  intro r hr
  have hg' := List.all_eq_true.1 hg
  obtain ⟨a, ha, b, hb, hab, rfl⟩ := mapsG_mem.1 hr
  exact ⟨a, b, rfl, fair_fit (h a ha) (h b hb) (hg' a ha) (hg' b hb) hab hc, mapsG_mem.2 ⟨b, hb, a, ha, Ne.symm hab, rfl⟩⟩
set_option maxRecDepth 100000 in
theorem both_row {c : Int} {l : List Int} (h : ∀ x ∈ l, Fair x) (hg : Utf.allGood l = true) (hc : c < 18446744073709551615) : Both c (keysG c 0 0 l) := by
  intro r hr
  have hg' := List.all_eq_true.1 hg
  obtain ⟨a, b, ha, hb, hab, e⟩ := keysG_mem hr
  have ha' : a ∈ l := by
    rcases ha with ⟨_, ha⟩ | ha
    · omega
    · exact ha
  rcases e with rfl | rfl
  · exact ⟨a, b, rfl, fair_fit (h a ha') (h b hb) (hg' a ha') (hg' b hb) hab hc, keysG_turn hr⟩
  · exact ⟨b, a, rfl, fair_fit (h b hb) (h a ha') (hg' b hb) (hg' a ha') (Ne.symm hab) hc, keysG_turn hr⟩
set_option maxRecDepth 100000 in
theorem both_nrm {c : Int} {rs : List Rul} (h : Both c rs) : ∀ r ∈ nrm rs, ∃ a b, r = ⟨[a], [b], c⟩ ∧ (⟨[b], [a], c⟩ : Rul) ∈ nrm rs := by
  intro r hr
  have hn := isNorm_nrm rs
  obtain ⟨a, b, rfl, hf, ht⟩ := h r (hn.2.1 r hr).1
  refine ⟨a, b, rfl, ?_⟩
  obtain ⟨_, _, _, hf', _⟩ := h _ ht
  obtain ⟨s, hs, hl, _⟩ := hn.2.2 _ ht (fit_parts hf').1
  obtain ⟨a', b', rfl, _, _⟩ := h s (hn.2.1 s hs).1
  have e1 : [a'] = [b] := hl.1
  have e2 : [b'] = [a] := hl.2
  rw [List.cons.inj e1 |>.1, List.cons.inj e2 |>.1] at hs
  exact hs
set_option maxRecDepth 100000 in
theorem both_fit {c : Int} {rs : List Rul} (h : Both c rs) : ∀ r ∈ rs, fit r = true := fun r hr => by
  obtain ⟨_, _, _, hf, _⟩ := h r hr
  exact hf
set_option maxRecDepth 100000 in
theorem read_class_fair {l : List Int} {c : Nat} (h : ∀ x ∈ l, Fair x) (hg : Utf.allGood l = true) (hl : l ≠ []) (h12 : l.length ≤ 12) (hc : c < 18446744073709551615) : read (wMAP ++ [32] ++ Utf.put l ++ [32] ++ Num.dig c) = ⟨0, [], mapsG c l⟩ := by
  rw [read_class hg (fair_plain h) hl hc]
  have h2 : mapsOk l = true := by
    unfold mapsOk
    rw [decide_eq_true h12, List.all_eq_true.2 fun x hx => by simp; exact (h x hx).2.1]; rfl
  rw [h2]
  exact told_yes (both_fit (both_class h hg (by omega)))
set_option maxRecDepth 100000 in
theorem read_row_fair {l : List Int} {c : Nat} (h : ∀ x ∈ l, Fair x) (hg : Utf.allGood l = true) (hl : l ≠ []) (h12 : l.length ≤ 12) (hc : c < 18446744073709551615) : read (wKEY ++ [32] ++ Utf.put l ++ [32] ++ Num.dig c) = ⟨0, [], keysG c 0 0 l⟩ := by
  rw [read_row hg (fair_plain h) hl hc, fair_keys h (by omega)]
  exact told_yes (both_fit (both_row h hg (by omega)))

/-! ### the signs in another order -/
def rot (l : List Int) (f i : Nat) : List Int := (List.range i).map fun j => l.getD ((j + f) % l.length) 0
set_option maxRecDepth 100000 in
theorem rot_next (l : List Int) (f i : Nat) : rot l f (i + 1) = rot l f i ++ [l.getD ((i + f) % l.length) 0] := by simp [rot, List.range_succ]
set_option maxRecDepth 100000 in
theorem rot_len (l : List Int) (f i : Nat) : (rot l f i).length = i := by simp [rot]
set_option maxRecDepth 100000 in
theorem rot_sub {l : List Int} {f i : Nat} (hl : 0 < l.length) : ∀ x ∈ rot l f i, x ∈ l := by
  intro x hx
  obtain ⟨j, _, rfl⟩ := List.mem_map.1 hx
  have hm := Nat.mod_lt (j + f) hl
  rw [List.getD_eq_getElem?_getD, List.getElem?_eq_getElem hm]
  exact List.getElem_mem hm
set_option maxRecDepth 100000 in
theorem rot_mem {l : List Int} {f : Nat} (x : Int) : x ∈ rot l f l.length ↔ x ∈ l := by
  constructor
  · intro h
    rcases Nat.eq_zero_or_pos l.length with h0 | hp
    · rw [h0] at h; simp [rot] at h
    · exact rot_sub hp x h
  · intro h
    obtain ⟨j, hj, rfl⟩ := List.mem_iff_getElem.1 h
    have hp : 0 < l.length := by omega
    have hg := Nat.mod_lt f hp
    have key : ∃ i, i < l.length ∧ (i + f) % l.length = j := by
      by_cases hc : f % l.length ≤ j
      · refine ⟨j - f % l.length, by omega, ?_⟩
        rw [← Nat.add_mod_mod, show j - f % l.length + f % l.length = j from by omega, Nat.mod_eq_of_lt hj]
      · refine ⟨j + l.length - f % l.length, by omega, ?_⟩
        rw [← Nat.add_mod_mod, show j + l.length - f % l.length + f % l.length = j + l.length from by omega, Nat.add_mod_right, Nat.mod_eq_of_lt hj]
    obtain ⟨i, hi, e⟩ := key
    refine List.mem_map.2 ⟨i, List.mem_range.2 hi, ?_⟩
    rw [e]; simp [hj]
set_option maxRecDepth 100000 in
theorem rot_good {l : List Int} {f i : Nat} (hl : 0 < l.length) (h : Utf.allGood l = true) : Utf.allGood (rot l f i) = true := by
  unfold Utf.allGood at h ⊢
  rw [List.all_eq_true] at h ⊢
  exact fun x hx => h x (rot_sub hl x hx)
set_option maxRecDepth 100000 in
theorem rot_class (c : Int) (l : List Int) (f : Nat) : nrm (mapsG c (rot l f l.length)) = nrm (mapsG c l) :=
  nrm_congr fun r => by
    rw [mapsG_mem, mapsG_mem]
    simp only [rot_mem]
set_option maxRecDepth 100000 in
theorem class_few {c : Int} : ∀ {l : List Int}, l.length ≤ 12 → (mapsG c l).length ≤ 144 := by
  intro l h
  have go : ∀ m : List Int, (m.flatMap fun a => mapsA c a l).length ≤ m.length * l.length := by
    intro m
    induction m with
    | nil => simp
    | cons a m ih =>
      have := mapsA_len c a l
      rw [List.flatMap_cons, List.length_append, List.length_cons, Nat.succ_mul]
      omega
  have h1 := go l
  have h2 : l.length * l.length ≤ 12 * 12 := Nat.mul_le_mul h h
  unfold mapsG
  omega
set_option maxRecDepth 100000 in
theorem row_few {c : Int} : ∀ {l : List Int} {row : Nat} {p : Int}, (keysG c row p l).length ≤ 2 * l.length
  | [], _, _ => by simp [keysG]
  | x :: l, row, p => by
    rw [keysG]
    split
    · have := row_few (c := c) (l := l) (row := 0) (p := x); simp; omega
    · have := row_few (c := c) (l := l) (row := row + 1) (p := x)
      rw [List.length_append]
      have h2 : (if 1 ≤ row ∧ x ≠ p then both p x c else []).length ≤ 2 := by split <;> simp [both]
      generalize (if 1 ≤ row ∧ x ≠ p then both p x c else []) = q at *
      rw [List.length_cons]; omega

/-! ### does one of the first k rules stand the other way -/
def hasT (n : List Rul) (a b : Int) (k : Nat) : Bool := (n.take k).any fun s => decide (s.L = [b] ∧ s.R = [a])
set_option maxRecDepth 100000 in
theorem hasT_next {n : List Rul} {a b : Int} {k : Nat} {s : Rul} (hk : k < n.length) (hs : n.getD k Rul.no = s) : hasT n a b (k + 1) = (hasT n a b k || decide (s.L = [b] ∧ s.R = [a])) := by
  unfold hasT
  rw [List.take_succ_eq_append_getElem hk, List.any_append]
  have e : n[k] = s := by rw [← hs]; simp [hk]
  rw [e]; simp
set_option maxRecDepth 100000 in
theorem hasT_all {n : List Rul} {a b c : Int} (h : (⟨[b], [a], c⟩ : Rul) ∈ n) : hasT n a b n.length = true := by
  unfold hasT
  rw [List.take_length, List.any_eq_true]
  exact ⟨_, h, by simp⟩

end Spec
end Go.Proofs.Ytdeicfdbjmpliaa
